/- Proved: for every number, 'PlanFirst' returns true and its argument reads afterwards as before. No condition. -/
import Derived.Test.YtmpnofdgfminlaaRows
import Derived.Test.YtmpnofdgfminlaaRight
import Derived.ProofKit
import Derived.OpenShut
import Derived.SizedLaws
namespace Go.Proofs.Ytmpnofdgfminlaa.planFirst
open Go.ChangeShapes Go.WideShapes Go.ChangeAt Go.RowKit
set_option linter.unusedVariables false

theorem own : ownKnob Try.prog.godebug = none := by kernel_rfl
theorem laidOut : laidOutB Try.prog = true := by kernel_rfl

theorem first_no (a e kd k most : Int) (w : World) (h : k < 0 ∨ most ≤ k) (he : e = 1) (ha : a = 0) :
    Calls Try.prog 20 #[.int .i64 a, .int .i64 e, .int .i64 kd, .int .i64 k, .int .i64 most] w fun e w' => e = .returned (.bool true) ∧ w' = w := by
  subst he ha
  rcases h with h | h
  · go_enter Try.func20, Try.ntmps20
    go_wp2
    go_ret
    exact ⟨rfl, rfl⟩
  · by_cases h' : k < 0
    · go_enter Try.func20, Try.ntmps20
      go_wp2
      go_ret
      exact ⟨rfl, rfl⟩
    · go_enter Try.func20, Try.ntmps20
      go_wp2
      go_ret
      exact ⟨rfl, rfl⟩

theorem first_yes (a kd k most y m : Int) (w : World) (h0 : 0 ≤ k) (h1 : k < most) (hm : most ≤ 100) (ha : 1 ≤ a) (ha' : a ≤ 3000) (hk : kindI a = kd) (hn : numI a = k)
    (hy : kindI (a - 1) = y) (hm' : numI (a - 1) = m) (hor : ¬ y = kd ∨ m = k - 1) :
    Calls Try.prog 20 #[.int .i64 a, .int .i64 0, .int .i64 kd, .int .i64 k, .int .i64 most] w fun e w' => e = .returned (.bool true) ∧ w' = w := by
  have W1 := what_any a w
  have W2 := what_any (a - 1) w
  rw [hk, hn] at W1
  rw [hy, hm'] at W2
  have K1 : Hid _ := W1
  have K2 : Hid _ := W2
  clear W1 W2 hk hn hy hm'
  by_cases hyk : y = kd
  · have hmk := hor.resolve_left (fun h => h hyk)
    subst hyk hmk
    clear hor
    go_enter Try.func20, Try.ntmps20
    go_wp2_with fail
    refine Calls.mono (Hid.out K1) ?_
    rintro e w' ⟨rfl, rfl⟩
    go_wp2_with fail
    refine Calls.mono (Hid.out K2) ?_
    rintro e w' ⟨rfl, rfl⟩
    go_wp2
    go_ret
    exact ⟨rfl, rfl⟩
  · clear hor
    have g1 : (y == kd) = false := by simpa using hyk
    have g2 : (y != kd) = true := by simpa using hyk
    go_enter Try.func20, Try.ntmps20
    go_wp2_with fail
    refine Calls.mono (Hid.out K1) ?_
    rintro e w' ⟨rfl, rfl⟩
    go_wp2_with fail
    refine Calls.mono (Hid.out K2) ?_
    rintro e w' ⟨rfl, rfl⟩
    go_wp2
    go_ret
    exact ⟨rfl, rfl⟩

/-- What the call answers of a number, and that the law's own test says yes to it. -/
theorem card_both (k : Int) (w : World) : ∃ a e : Int, (∀ w, Hid (Calls Try.prog 16 #[.int .i64 k] w fun x w' => x = .returned (.tuple #[.int .i64 a, .int .i64 e]) ∧ w' = w)) ∧
    (∀ w, Hid (Calls Try.prog 20 #[.int .i64 a, .int .i64 e, .int .i64 2, .int .i64 k, .int .i64 24] w fun x w' => x = .returned (.bool true) ∧ w' = w)) := by
  by_cases h : k < 0 ∨ 24 ≤ k
  · exact ⟨0, 1, fun w => card_no k w h, fun w => first_no 0 1 2 k 24 w h rfl rfl⟩
  · have h0 : 0 ≤ k := by omega
    have h1 : k < 24 := by omega
    refine ⟨8 + 8 * k, 0, fun w => card_yes k w h0 h1, fun w => first_yes (8 + 8 * k) 2 k 24 _ _ w h0 h1 (by omega) (by omega) (by omega) (ki_card (by omega) (by omega)).1 (by rw [(ki_card (by omega) (by omega)).2]; omega) rfl rfl ?_⟩
    by_cases hz : k = 0
    · left; subst hz; decide
    · right; rw [(ki_card (by omega) (by omega)).2]; omega
/-- What the call answers of a number, and that the law's own test says yes to it. -/
theorem owner_both (k : Int) (w : World) : ∃ a e : Int, (∀ w, Hid (Calls Try.prog 17 #[.int .i64 k] w fun x w' => x = .returned (.tuple #[.int .i64 a, .int .i64 e]) ∧ w' = w)) ∧
    (∀ w, Hid (Calls Try.prog 20 #[.int .i64 a, .int .i64 e, .int .i64 3, .int .i64 k, .int .i64 96] w fun x w' => x = .returned (.bool true) ∧ w' = w)) := by
  by_cases h : k < 0 ∨ 96 ≤ k
  · exact ⟨0, 1, fun w => owner_no k w h, fun w => first_no 0 1 3 k 96 w h rfl rfl⟩
  · have h0 : 0 ≤ k := by omega
    have h1 : k < 96 := by omega
    refine ⟨200 + k, 0, fun w => owner_yes k w h0 h1, fun w => first_yes (200 + k) 3 k 96 _ _ w h0 h1 (by omega) (by omega) (by omega) (ki_owner (by omega) (by omega)).1 (by rw [(ki_owner (by omega) (by omega)).2]; omega) rfl rfl ?_⟩
    by_cases hz : k = 0
    · left; subst hz; decide
    · right; rw [(ki_owner (by omega) (by omega)).2]; omega
/-- What the call answers of a number, and that the law's own test says yes to it. -/
theorem log_both (k : Int) (w : World) : ∃ a e : Int, (∀ w, Hid (Calls Try.prog 18 #[.int .i64 k] w fun x w' => x = .returned (.tuple #[.int .i64 a, .int .i64 e]) ∧ w' = w)) ∧
    (∀ w, Hid (Calls Try.prog 20 #[.int .i64 a, .int .i64 e, .int .i64 4, .int .i64 k, .int .i64 4] w fun x w' => x = .returned (.bool true) ∧ w' = w)) := by
  by_cases h : k < 0 ∨ 4 ≤ k
  · exact ⟨0, 1, fun w => log_no k w h, fun w => first_no 0 1 4 k 4 w h rfl rfl⟩
  · have h0 : 0 ≤ k := by omega
    have h1 : k < 4 := by omega
    refine ⟨296 + 248 * k, 0, fun w => log_yes k w h0 h1, fun w => first_yes (296 + 248 * k) 4 k 4 _ _ w h0 h1 (by omega) (by omega) (by omega) (ki_log (by omega) (by omega)).1 (by rw [(ki_log (by omega) (by omega)).2]; omega) rfl rfl ?_⟩
    by_cases hz : k = 0
    · left; subst hz; decide
    · right; rw [(ki_log (by omega) (by omega)).2]; omega
/-- What the call answers of a number, and that the law's own test says yes to it. -/
theorem block_both (k : Int) (w : World) : ∃ a e : Int, (∀ w, Hid (Calls Try.prog 19 #[.int .i64 k] w fun x w' => x = .returned (.tuple #[.int .i64 a, .int .i64 e]) ∧ w' = w)) ∧
    (∀ w, Hid (Calls Try.prog 20 #[.int .i64 a, .int .i64 e, .int .i64 5, .int .i64 k, .int .i64 96] w fun x w' => x = .returned (.bool true) ∧ w' = w)) := by
  by_cases h : k < 0 ∨ 96 ≤ k
  · exact ⟨0, 1, fun w => block_no k w h, fun w => first_no 0 1 5 k 96 w h rfl rfl⟩
  · have h0 : 0 ≤ k := by omega
    have h1 : k < 96 := by omega
    refine ⟨1288 + 16 * k, 0, fun w => block_yes k w h0 h1, fun w => first_yes (1288 + 16 * k) 5 k 96 _ _ w h0 h1 (by omega) (by omega) (by omega) (ki_data (by omega) (by omega)).1 (by rw [(ki_data (by omega) (by omega)).2]; omega) rfl rfl ?_⟩
    by_cases hz : k = 0
    · left; subst hz; decide
    · right; rw [(ki_data (by omega) (by omega)).2]; omega

set_option maxHeartbeats 1000000 in
theorem walk (k : Int) (w : World) (_hk : -9223372036854775808 ≤ k ∧ k ≤ 9223372036854775807) :
    Calls Try.prog 4 #[.int .i64 k] w fun e w' => e = .returned (.bool true) ∧ Below w.heap.size w w' := by
  clear _hk
  obtain ⟨a1, e1, A1, B1⟩ := card_both k w
  obtain ⟨a2, e2, A2, B2⟩ := owner_both k w
  obtain ⟨a3, e3, A3, B3⟩ := log_both k w
  obtain ⟨a4, e4, A4, B4⟩ := block_both k w
  go_enter Try.func4, Try.ntmps4
  go_wp2_with fail
  refine (lives_any _).mono ?_
  rintro e w1 ⟨rfl, hb⟩
  go_wp2_with fail
  refine Calls.mono (Hid.out (A1 _)) ?_
  rintro e w1 ⟨rfl, rfl⟩
  go_wp2_with fail
  refine Calls.mono (Hid.out (A2 _)) ?_
  rintro e w1 ⟨rfl, rfl⟩
  go_wp2_with fail
  refine Calls.mono (Hid.out (A3 _)) ?_
  rintro e w1 ⟨rfl, rfl⟩
  go_wp2_with fail
  refine Calls.mono (Hid.out (A4 _)) ?_
  rintro e w1 ⟨rfl, rfl⟩
  go_wp2_with fail
  refine Calls.mono (Hid.out (B1 _)) ?_
  rintro e w1 ⟨rfl, rfl⟩
  go_wp2_with fail
  refine Calls.mono (Hid.out (B2 _)) ?_
  rintro e w1 ⟨rfl, rfl⟩
  go_wp2_with fail
  refine Calls.mono (Hid.out (B3 _)) ?_
  rintro e w1 ⟨rfl, rfl⟩
  go_wp2_with fail
  refine Calls.mono (Hid.out (B4 _)) ?_
  rintro e w1 ⟨rfl, rfl⟩
  go_wp2
  go_ret
  exact ⟨rfl, hb⟩

set_option maxRecDepth 100000 in
theorem lifted (os : Os) (started : os.Started) (H : Type) (enc : TypeId × Value → H) :
    ReturnsInHanded {} Try.checked os 4 .any (Rows.planFirstSpec.pre6 enc Try.prog Try.f4 Rows.planFirstRow.domain false) (Rows.planFirstSpec.post enc Try.prog Try.f4 false true false false) := by
  refine returnsInHanded_of_change (C := Try.checked) own started (by kernel_rfl) Try.func4
    (ChangeSpec.witness6 (enc := enc) (C := Try.checked) false ⟨#[], #[.int .i64 0], []⟩ 8 (by kernel_rfl) (by kernel_rfl) (by kernel_rfl) (by kernel_rfl)) ?_
  intro W base args ds gs before hval0 hW hcnd _
  have hval : ∀ (j : Nat) t v, Try.f4.params[j]? = some t → args[j]? = some v → Value.okWide Try.prog W .any base t v := hval0
  have hW' := hW
  obtain ⟨p, q, hA0, hV, rfl, hfz, hnd⟩ := hW
  have hA : DataW.TrodAll enc Try.prog W 0 (fun _ => true) true Try.f4.params.toList args.toList ds p := hA0
  rw [Try.params4] at hA hval
  obtain ⟨v0, vs0, d0, ds0, p0, q0, hargs, rfl, rfl, h0, r0⟩ := trodAll_cons hA
  obtain ⟨rfl, rfl, rfl⟩ := trodAll_nil r0
  obtain rfl : args = #[v0] := by cases args; simp_all
  obtain ⟨rfl, rfl⟩ := trodVars_none hV
  obtain ⟨a0, rfl, rfl, rfl, w0⟩ := open_int Try.underlying3 (hval 0 3 v0 rfl rfl) h0
  clear hA0 hval0
  refine (walk a0 W (bounds_i64 w0)).mono fun e W' ⟨he, bel⟩ => ?_
  subst he
  exact ⟨_, rfl, _, _, _, [], _, [], hW', trodAll_mk1 (shut_bool Try.underlying4 _), (trodAll_cons_mk (shut_int Try.underlying3 w0) trodAll_mk0), rfl, bel.frame _, fun h => by cases h⟩

theorem over : Rows.planFirstRow.holds Try.pinned (OpenSpec.ofChange Rows.planFirstSpec) :=
  OpenClaim.holds_of_wide 4 Try.f4 rfl rfl rfl rfl rfl rfl rfl ⟨rfl, rfl, rfl, rfl, rfl⟩ rfl rfl rfl rfl rfl (by kernel_rfl) Try.func4 (by kernel_rfl)
    (of_decide_eq_true (by kernel_rfl)) (by unfold Func.isWrapper; first | (rw [if_pos (by decide +kernel)]; kernel_rfl) | (rw [if_neg (by decide +kernel)]; exact ⟨rfl, rfl⟩))
    (fun os started H enc _ => lifted os started H enc)

theorem proved : Rows.PlanFirstSaid := over
#print axioms proved
end Go.Proofs.Ytmpnofdgfminlaa.planFirst
