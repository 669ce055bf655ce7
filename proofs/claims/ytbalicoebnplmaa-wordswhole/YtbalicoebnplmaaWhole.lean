/- Proved: for every word and every cut, 'WordsWhole' returns true and its arguments read afterwards as before. No condition. -/
import Derived.Test.YtbalicoebnplmaaRows
import Derived.Test.YtbalicoebnplmaaLives
import Derived.ProofKit
import Derived.OpenShut
import Derived.ShutString
namespace Go.Proofs.Ytbalicoebnplmaa.wordsWhole
open Go.ChangeShapes Go.WideShapes Go.ChangeAt Go.RowKit
open Go.ChangeMaps (open_string shut_string)
set_option linter.unusedVariables false

theorem own : ownKnob Try.prog.godebug = none := by kernel_rfl

theorem cut_form (a : Int) : ∃ k : Int, wrap64 (1 + wrap64 ((IntKind.u64.wrap a).tmod 63)) = k ∧ 1 ≤ k ∧ k ≤ 63 := by
  refine ⟨1 + (a % 18446744073709551616) % 63, ?_, by omega, by omega⟩
  rw [IntKind.wrap_u64, tmod_of_emod]
  unfold wrap64
  omega

theorem whole_I (a k : Int) (h0 : 0 ≤ a) (h1 : a ≤ 18446744073709551615) (k1 : 1 ≤ k) (k2 : k ≤ 63) :
    putI (putI 0 0 k (getI a 0 k)) k (64 - k) (getI a k (64 - k)) = a := by
  have h := whole a.toNat k.toNat (by omega) (by omega)
  have e : (64 - k).toNat = 64 - k.toNat := by omega
  unfold putI getI
  simp only [Int.toNat_natCast, Int.toNat_zero, e, h]
  omega
theorem all_I (a : Int) (h0 : 0 ≤ a) (h1 : a ≤ 18446744073709551615) : getI a 0 64 = a := by
  have h := get_all a.toNat (by omega)
  have e : (64 : Int).toNat = 64 := rfl
  unfold getI
  rw [Int.toNat_zero, e, h]; omega
theorem ones_shl (k : Int) (k1 : 1 ≤ k) (k2 : k ≤ 63) : IntKind.u64.wrap (IntKind.u64.wrap (2 ^ k.toNat) - 1) = onesI k := by
  obtain ⟨K, rfl⟩ := Int.eq_ofNat_of_zero_le (show 0 ≤ k by omega)
  have h1 : 2 ^ K < 2 ^ 64 := Nat.pow_lt_pow_right (by omega) (by omega)
  have h2 : 0 < 2 ^ K := Nat.two_pow_pos _
  have e : (2 : Int) ^ K = ((2 ^ K : Nat) : Int) := by simp
  unfold onesI
  rw [IntKind.wrap_u64, IntKind.wrap_u64, Int.toNat_natCast, e]
  omega

theorem walk (a0 : Int) (a1 : Int) (hx0 : 0 ≤ a0) (hx : a0 ≤ 18446744073709551615) (w : World) :
    Calls Try.prog 8 #[.int .u64 a0, .int .i64 a1] w fun e w' => e = .returned (.bool true) ∧ Below w.heap.size w w' := by
  obtain ⟨k, hk, hk1, hk2⟩ := cut_form a1
  have b1 := getI_bd a0 0 k hx0
  have b2 := getI_bd a0 k (64 - k) hx0
  have b3 := getI_ones a0 0 k
  have b4 := getI_ones a0 k (64 - k)
  have b5 := putI_bd 0 0 k (getI a0 0 k) (by omega) (by omega) (by omega) (by omega) (by omega) b1.1 b3
  have e1 := whole_I a0 k hx0 hx hk1 hk2
  have e3 := ones_shl k hk1 hk2
  have e4 := ones_shl (64 - k) (by omega) (by omega)
  have e2 := all_I a0 hx0 hx
  go_enter Try.func8, Try.ntmps8
  go_wp2_with fail
  refine (lives_any _).mono ?_
  rintro e w1 ⟨rfl, hb⟩
  go_wp2_with fail
  refine (get_yes a0 0 k _ hx0 hx (by omega) (by omega) (by omega)).mono ?_
  rintro e w1 ⟨rfl, rfl⟩
  go_wp2_with fail
  refine (get_yes a0 k (64 - k) _ hx0 hx (by omega) (by omega) (by omega)).mono ?_
  rintro e w1 ⟨rfl, rfl⟩
  go_wp2_with fail
  refine (put_yes 0 0 k (getI a0 0 k) _ (by omega) (by omega) (by omega) (by omega) (by omega) b1.1 b3).mono ?_
  rintro e w1 ⟨rfl, rfl⟩
  go_wp2_with fail
  refine (put_yes (putI 0 0 k (getI a0 0 k)) k (64 - k) (getI a0 k (64 - k)) _ b5.1 b5.2 (by omega) (by omega) (by omega) b2.1 b4).mono ?_
  rintro e w1 ⟨rfl, rfl⟩
  go_wp2_with fail
  refine (get_yes a0 0 64 _ hx0 hx (by omega) (by omega) (by omega)).mono ?_
  rintro e w1 ⟨rfl, rfl⟩
  go_wp2
  go_ret
  exact ⟨rfl, hb⟩

set_option maxRecDepth 100000 in
theorem lifted (os : Os) (started : os.Started) (H : Type) (enc : TypeId × Value → H) :
    ReturnsInHanded {} Try.checked os 8 .any (Rows.wordsWholeSpec.pre6 enc Try.prog Try.f8 Rows.wordsWholeRow.domain false) (Rows.wordsWholeSpec.post enc Try.prog Try.f8 false true false false) := by
  refine returnsInHanded_of_change (C := Try.checked) own started (by kernel_rfl) Try.func8
    (ChangeSpec.witness6 (enc := enc) (C := Try.checked) false ⟨#[], #[.int .u64 0, .int .i64 0], []⟩ 8 (by kernel_rfl) (by kernel_rfl) (by kernel_rfl) (by kernel_rfl)) ?_
  intro W base args ds gs before hval0 hW hcnd _
  have hval : ∀ (j : Nat) t v, Try.f8.params[j]? = some t → args[j]? = some v → Value.okWide Try.prog W .any base t v := hval0
  have hW' := hW
  obtain ⟨p, q, hA0, hV, rfl, hfz, hnd⟩ := hW
  have hA : DataW.TrodAll enc Try.prog W 0 (fun _ => true) true Try.f8.params.toList args.toList ds p := hA0
  rw [Try.params8] at hA hval
  obtain ⟨v0, vs0, d0, ds0, p0, q0, hargs, rfl, rfl, h0, r0⟩ := trodAll_cons hA
  obtain ⟨v1, vs1, d1, ds1, p1, q1, rfl, rfl, rfl, h1, r1⟩ := trodAll_cons r0
  obtain ⟨rfl, rfl, rfl⟩ := trodAll_nil r1
  obtain rfl : args = #[v0, v1] := by cases args; simp_all
  obtain ⟨rfl, rfl⟩ := trodVars_none hV
  obtain ⟨a0, rfl, rfl, rfl, w0⟩ := open_int Try.underlying22 (hval 0 22 v0 rfl rfl) h0
  obtain ⟨a1, rfl, rfl, rfl, w1⟩ := open_int Try.underlying3 (hval 1 3 v1 rfl rfl) h1
  clear hA0 hval0
  simp only [List.append_nil] at hW'
  have bd := bounds_u64 w0
  refine (walk a0 a1 bd.1 bd.2 W).mono fun e W' ⟨he, bel⟩ => ?_
  subst he
  exact ⟨_, rfl, _, _, _, [], _, [], hW', trodAll_mk1 (shut_bool Try.underlying4 _), (trodAll_cons_mk (shut_int Try.underlying22 w0) (trodAll_cons_mk (shut_int Try.underlying3 w1) trodAll_mk0)), rfl, bel.frame _, fun h => by cases h⟩

theorem over : Rows.wordsWholeRow.holds Try.pinned (OpenSpec.ofChange Rows.wordsWholeSpec) :=
  OpenClaim.holds_of_wide 8 Try.f8 rfl rfl rfl rfl rfl rfl rfl ⟨rfl, rfl, rfl, rfl, rfl⟩ rfl rfl rfl rfl rfl (by kernel_rfl) Try.func8 (by kernel_rfl)
    (of_decide_eq_true (by kernel_rfl)) (by unfold Func.isWrapper; first | (rw [if_pos (by decide +kernel)]; kernel_rfl) | (rw [if_neg (by decide +kernel)]; exact ⟨rfl, rfl⟩))
    (fun os started H enc _ => lifted os started H enc)

/-- ████ THE STATEMENT ████ -/
theorem proved : Rows.WordsWholeSaid :=
  over
#print axioms proved
end Go.Proofs.Ytbalicoebnplmaa.wordsWhole
