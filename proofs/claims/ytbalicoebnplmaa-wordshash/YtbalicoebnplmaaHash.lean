/- Proved: for every three texts, 'WordsHash' returns true and its arguments read afterwards as before. No condition. -/
import Derived.Test.YtbalicoebnplmaaRows
import Derived.Test.YtbalicoebnplmaaLives
import Derived.ProofKit
import Derived.OpenShut
import Derived.ShutString
import Derived.SizedLaws
namespace Go.Proofs.Ytbalicoebnplmaa.wordsHash
open Go.ChangeShapes Go.WideShapes Go.ChangeAt Go.RowKit
open Go.ChangeMaps (open_string shut_string)
set_option linter.unusedVariables false

theorem own : ownKnob Try.prog.godebug = none := by kernel_rfl

theorem mul_back (y : Nat) (h : y < 18446744073709551616) : (y * 1099511628211 % 18446744073709551616) * 14886173955864302971 % 18446744073709551616 = y := by
  rw [Nat.mod_mul_mod, Nat.mul_assoc]
  have e : 1099511628211 * 14886173955864302971 = 887285111055 * 18446744073709551616 + 1 := by decide
  rw [e]
  omega

theorem step_inj (x y z : Nat) (hx : x < 18446744073709551616) (hy : y < 18446744073709551616) (hz : z < 256)
    (h : (x ^^^ z) * 1099511628211 % 18446744073709551616 = (y ^^^ z) * 1099511628211 % 18446744073709551616) : x = y := by
  have hz2 : z < 2 ^ 64 := by omega
  have b1 : x ^^^ z < 2 ^ 64 := Nat.xor_lt_two_pow (by omega) hz2
  have b2 : y ^^^ z < 2 ^ 64 := Nat.xor_lt_two_pow (by omega) hz2
  have e1 := mul_back (x ^^^ z) (by omega)
  have e2 := mul_back (y ^^^ z) (by omega)
  rw [h, e2] at e1
  have e3 : (x ^^^ z) ^^^ z = (y ^^^ z) ^^^ z := by rw [e1]
  rw [Nat.xor_assoc, Nat.xor_self, Nat.xor_zero, Nat.xor_assoc, Nat.xor_self, Nat.xor_zero] at e3
  exact e3

theorem bAt_left (a c : ByteArray) (k : Nat) (h : k < a.size) : bAt (a ++ c) k = bAt a k := by
  rw [bAt_eq (a ++ c) k (by rw [ByteArray.size_append]; omega), bAt_eq a k h, ByteArray.getElem_append_left h]
theorem bAt_right (a c : ByteArray) (k : Nat) (h : k < c.size) : bAt (a ++ c) (a.size + k) = bAt c k := by
  rw [bAt_eq (a ++ c) (a.size + k) (by rw [ByteArray.size_append]; omega), bAt_eq c k h, ByteArray.getElem_append_right (by omega)]
  congr 2; omega

theorem hash_left (a c : ByteArray) (k : Nat) (h : k ≤ a.size) : hashN (bAt (a ++ c)) k = hashN (bAt a) k := by
  induction k with
  | zero => rfl
  | succ k ih => rw [hashN_succ, hashN_succ, ih (by omega), bAt_left a c k (by omega)]

theorem hash_iff (a b c : ByteArray) (k : Nat) (h : k ≤ c.size) :
    hashN (bAt (a ++ c)) (a.size + k) = hashN (bAt (b ++ c)) (b.size + k) ↔ hashN (bAt a) a.size = hashN (bAt b) b.size := by
  induction k with
  | zero => rw [Nat.add_zero, Nat.add_zero, hash_left a c _ (Nat.le_refl _), hash_left b c _ (Nat.le_refl _)]
  | succ k ih =>
    rw [← ih (by omega), ← Nat.add_assoc, ← Nat.add_assoc, hashN_succ, hashN_succ, bAt_right a c k (by omega), bAt_right b c k (by omega)]
    constructor
    · intro he; exact step_inj _ _ _ (hashN_lt _ _) (hashN_lt _ _) (bAt_lt _ _) he
    · intro he; rw [he]

def hs (s : ByteArray) : Int := (hashN (bAt s) s.size : Nat)
theorem hs_iff (a b c : ByteArray) : hs (a ++ c) = hs (b ++ c) ↔ hs a = hs b := by
  have h := hash_iff a b c c.size (Nat.le_refl _)
  unfold hs
  rw [ByteArray.size_append, ByteArray.size_append]
  omega

theorem hash_hs (s : ByteArray) (w : World) (h : s.size ≤ maxLen) : Calls Try.prog 19 #[.string s] w fun e w' => e = .returned (.int .u64 (hs s)) ∧ w' = w := hash_any s w h

theorem ret_bool {a b : Bool} (h : a = b) : Ending.returned (.bool a) = .returned (.bool b) := by rw [h]

theorem walk (a0 : ByteArray) (a1 : ByteArray) (a2 : ByteArray) (w0 : a0.size ≤ 140737488351232) (w1 : a1.size ≤ 140737488351232) (w2 : a2.size ≤ 140737488351232) (w : World) :
    Calls Try.prog 7 #[.string a0, .string a1, .string a2] w fun e w' => e = .returned (.bool true) ∧ Below w.heap.size w w' := by
  have h0 : a0.size ≤ maxLen := by unfold maxLen; omega
  have h1 : a1.size ≤ maxLen := by unfold maxLen; omega
  have h02 : (a0 ++ a2).size ≤ maxLen := by rw [ByteArray.size_append]; unfold maxLen; omega
  have h12 : (a1 ++ a2).size ≤ maxLen := by rw [ByteArray.size_append]; unfold maxLen; omega
  have hi := hs_iff a0 a1 a2
  by_cases he : hs a0 = hs a1
  · have t1 : (hs a0 == hs a1) = true := by simp [he]
    have t2 : (hs (a0 ++ a2) == hs (a1 ++ a2)) = true := by simp [hi.2 he]
    clear hi he
    go_enter Try.func7, Try.ntmps7
    go_wp2_with fail
    refine (lives_any _).mono ?_
    rintro e w1 ⟨rfl, hb⟩
    go_wp2_with fail
    refine (hash_hs a0 _ h0).mono ?_
    rintro e w2 ⟨rfl, rfl⟩
    go_wp2_with fail
    refine (hash_hs a1 _ h1).mono ?_
    rintro e w2 ⟨rfl, rfl⟩
    go_wp2_with fail
    refine (hash_hs (a0 ++ a2) _ h02).mono ?_
    rintro e w2 ⟨rfl, rfl⟩
    go_wp2_with fail
    refine (hash_hs (a1 ++ a2) _ h12).mono ?_
    rintro e w2 ⟨rfl, rfl⟩
    go_wp2
    go_ret
    exact ⟨rfl, hb⟩
  · have t1 : (hs a0 == hs a1) = false := by simp [he]
    have t2 : (hs (a0 ++ a2) == hs (a1 ++ a2)) = false := by
      have : ¬ hs (a0 ++ a2) = hs (a1 ++ a2) := fun h => he (hi.1 h)
      simp [this]
    clear hi he
    go_enter Try.func7, Try.ntmps7
    go_wp2_with fail
    refine (lives_any _).mono ?_
    rintro e w1 ⟨rfl, hb⟩
    go_wp2_with fail
    refine (hash_hs a0 _ h0).mono ?_
    rintro e w2 ⟨rfl, rfl⟩
    go_wp2_with fail
    refine (hash_hs a1 _ h1).mono ?_
    rintro e w2 ⟨rfl, rfl⟩
    go_wp2_with fail
    refine (hash_hs (a0 ++ a2) _ h02).mono ?_
    rintro e w2 ⟨rfl, rfl⟩
    go_wp2_with fail
    refine (hash_hs (a1 ++ a2) _ h12).mono ?_
    rintro e w2 ⟨rfl, rfl⟩
    go_wp2
    go_ret
    exact ⟨ret_bool (by rw [bne, t2]; rfl), hb⟩

set_option maxRecDepth 100000 in
theorem lifted (os : Os) (started : os.Started) (H : Type) (enc : TypeId × Value → H) :
    ReturnsInHanded {} Try.checked os 7 .any (Rows.wordsHashSpec.pre6 enc Try.prog Try.f7 Rows.wordsHashRow.domain false) (Rows.wordsHashSpec.post enc Try.prog Try.f7 false true false false) := by
  refine returnsInHanded_of_change_sized (C := Try.checked) own started (by kernel_rfl) Try.func7
    (ChangeSpec.witness6 (enc := enc) (C := Try.checked) false ⟨#[], #[.string ByteArray.empty, .string ByteArray.empty, .string ByteArray.empty], []⟩ 8 (by kernel_rfl) (by kernel_rfl) (by kernel_rfl) (by kernel_rfl)) ?_
  intro W base args ds gs before hval0 hW hcnd hsz0 _
  have hval : ∀ (j : Nat) t v, Try.f7.params[j]? = some t → args[j]? = some v → Value.okWide Try.prog W .any base t v := hval0
  have hW' := hW
  obtain ⟨p, q, hA0, hV, rfl, hfz, hnd⟩ := hW
  have hA : DataW.TrodAll enc Try.prog W 0 (fun _ => true) true Try.f7.params.toList args.toList ds p := hA0
  have hsz : (DataW.weightsEach Try.prog (Try.f7.params.toList ++ Rows.wordsHashSpec.plain.varTypes Try.prog) (ds ++ gs)).all (· ≤ reachBytes) = true := hsz0
  rw [Try.params7] at hA hval hsz
  obtain ⟨v0, vs0, d0, ds0, p0, q0, hargs, rfl, rfl, h0, r0⟩ := trodAll_cons hA
  obtain ⟨v1, vs1, d1, ds1, p1, q1, rfl, rfl, rfl, h1, r1⟩ := trodAll_cons r0
  obtain ⟨v2, vs2, d2, ds2, p2, q2, rfl, rfl, rfl, h2, r2⟩ := trodAll_cons r1
  obtain ⟨rfl, rfl, rfl⟩ := trodAll_nil r2
  obtain rfl : args = #[v0, v1, v2] := by cases args; simp_all
  obtain ⟨rfl, rfl⟩ := trodVars_none hV
  obtain ⟨a0, rfl, rfl, rfl, w0⟩ := open_string Try.underlying9 (hval 0 9 v0 rfl rfl) h0
  obtain ⟨a1, rfl, rfl, rfl, w1⟩ := open_string Try.underlying9 (hval 1 9 v1 rfl rfl) h1
  obtain ⟨a2, rfl, rfl, rfl, w2⟩ := open_string Try.underlying9 (hval 2 9 v2 rfl rfl) h2
  have z0 := sized_string hsz (j := 0) (t := 9) rfl rfl
  have z1 := sized_string hsz (j := 1) (t := 9) rfl rfl
  have z2 := sized_string hsz (j := 2) (t := 9) rfl rfl
  clear hA0 hval0
  simp only [reachBytes] at z0 z1 z2
  refine (walk a0 a1 a2 z0 z1 z2 W).mono fun e W' ⟨he, bel⟩ => ?_
  subst he
  exact ⟨_, rfl, _, _, _, [], _, [], hW', trodAll_mk1 (shut_bool Try.underlying4 _), (trodAll_cons_mk (shut_string Try.underlying9 w0) (trodAll_cons_mk (shut_string Try.underlying9 w1) (trodAll_cons_mk (shut_string Try.underlying9 w2) trodAll_mk0))), rfl, bel.frame _, fun h => by cases h⟩

theorem over : Rows.wordsHashRow.holds Try.pinned (OpenSpec.ofChange Rows.wordsHashSpec) :=
  OpenClaim.holds_of_wide 7 Try.f7 rfl rfl rfl rfl rfl rfl rfl ⟨rfl, rfl, rfl, rfl, rfl⟩ rfl rfl rfl rfl rfl (by kernel_rfl) Try.func7 (by kernel_rfl)
    (of_decide_eq_true (by kernel_rfl)) (by unfold Func.isWrapper; first | (rw [if_pos (by decide +kernel)]; kernel_rfl) | (rw [if_neg (by decide +kernel)]; exact ⟨rfl, rfl⟩))
    (fun os started H enc _ => lifted os started H enc)

/-- ████ THE STATEMENT ████ -/
theorem proved : Rows.WordsHashSaid :=
  over
#print axioms proved
end Go.Proofs.Ytbalicoebnplmaa.wordsHash
