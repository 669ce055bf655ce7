/- Proved: for every number, 'PlanWhole' returns true and its argument reads afterwards as before. No condition. -/
import Derived.Test.YtmpnofdgfminlaaRows
import Derived.Test.YtmpnofdgfminlaaRight
import Derived.ProofKit
import Derived.OpenShut
import Derived.SizedLaws
namespace Go.Proofs.Ytmpnofdgfminlaa.planWhole
open Go.ChangeShapes Go.WideShapes Go.ChangeAt Go.RowKit
set_option linter.unusedVariables false

theorem own : ownKnob Try.prog.godebug = none := by kernel_rfl
theorem laidOut : laidOutB Try.prog = true := by kernel_rfl

theorem rem_form (a : Int) : ∃ k : Int, wrap64 ((IntKind.u64.wrap a).tmod 2823) = k ∧ 0 ≤ k ∧ k ≤ 2822 := by
  refine ⟨(a % 18446744073709551616) % 2823, ?_, by omega, by omega⟩
  rw [IntKind.wrap_u64, tmod_of_emod]
  unfold wrap64
  omega

/-- From a word to the next: the same thing, or the next one of its kind, or the first of the next kind. -/
theorem next (k : Int) (h0 : 0 ≤ k) (h1 : k ≤ 2822) : 1 ≤ kindI k ∧ kindI k ≤ 5 ∧ 0 ≤ numI k ∧ numI k ≤ 100 ∧ kindI (k + 1) ≤ 5 ∧
    ((kindI (k + 1) = kindI k ∧ numI (k + 1) = numI k) ∨ (kindI (k + 1) = kindI k ∧ ¬ numI (k + 1) = numI k ∧ numI (k + 1) = numI k + 1) ∨ (¬ kindI (k + 1) = kindI k ∧ kindI (k + 1) = kindI k + 1 ∧ numI (k + 1) = 0)) := by
  rcases places k with h | h | ⟨h, h'⟩ | ⟨h, h'⟩ | ⟨h, h'⟩ | ⟨h, h'⟩ | ⟨h, h'⟩
  · omega
  · omega
  · have e := ki_head h h'
    by_cases g : k + 1 < 8
    · have e' := ki_head (a := k + 1) (by omega) g
      omega
    · have e' := ki_card (a := k + 1) (by omega) (by omega)
      omega
  · have e := ki_card h h'
    by_cases g : k + 1 < 200
    · have e' := ki_card (a := k + 1) (by omega) g
      omega
    · have e' := ki_owner (a := k + 1) (by omega) (by omega)
      omega
  · have e := ki_owner h h'
    by_cases g : k + 1 < 296
    · have e' := ki_owner (a := k + 1) (by omega) g
      omega
    · have e' := ki_log (a := k + 1) (by omega) (by omega)
      omega
  · have e := ki_log h h'
    by_cases g : k + 1 < 1288
    · have e' := ki_log (a := k + 1) (by omega) g
      omega
    · have e' := ki_data (a := k + 1) (by omega) (by omega)
      omega
  · have e := ki_data h h'
    have e' := ki_data (a := k + 1) (by omega) (by omega)
    omega

set_option maxHeartbeats 1000000 in
theorem walk (x : Int) (w : World) (_hx : -9223372036854775808 ≤ x ∧ x ≤ 9223372036854775807) :
    Calls Try.prog 5 #[.int .i64 x] w fun e w' => e = .returned (.bool true) ∧ Below w.heap.size w w' := by
  clear _hx
  obtain ⟨k, hk, hk0, hk1⟩ := rem_form x
  have N := next k hk0 hk1
  have W1 := fun w => what_any k w
  have W2 := fun w => what_any (k + 1) w
  generalize kindI k = a at N W1
  generalize numI k = i at N W1
  generalize kindI (k + 1) = b at N W2
  generalize numI (k + 1) = j at N W2
  have K1 : Hid _ := W1
  have K2 : Hid _ := W2
  clear W1 W2
  obtain ⟨n1, n2, n3, n4, n5, N⟩ := N
  rcases N with ⟨rfl, rfl⟩ | ⟨rfl, hne, rfl⟩ | ⟨hne, rfl, rfl⟩
  · go_enter Try.func5, Try.ntmps5
    go_wp2_with fail
    refine (lives_any _).mono ?_
    rintro e w1 ⟨rfl, hb⟩
    go_wp2_with fail
    refine Calls.mono (Hid.out K1 _) ?_
    rintro e w' ⟨rfl, rfl⟩
    go_wp2_with fail
    refine Calls.mono (Hid.out K2 _) ?_
    rintro e w' ⟨rfl, rfl⟩
    go_wp2
    go_ret
    exact ⟨rfl, hb⟩
  · have g : (i + 1 == i) = false := by simp; omega
    go_enter Try.func5, Try.ntmps5
    go_wp2_with fail
    refine (lives_any _).mono ?_
    rintro e w1 ⟨rfl, hb⟩
    go_wp2_with fail
    refine Calls.mono (Hid.out K1 _) ?_
    rintro e w' ⟨rfl, rfl⟩
    go_wp2_with fail
    refine Calls.mono (Hid.out K2 _) ?_
    rintro e w' ⟨rfl, rfl⟩
    go_wp2
    go_ret
    exact ⟨rfl, hb⟩
  · have g : (a + 1 == a) = false := by simp; omega
    go_enter Try.func5, Try.ntmps5
    go_wp2_with fail
    refine (lives_any _).mono ?_
    rintro e w1 ⟨rfl, hb⟩
    go_wp2_with fail
    refine Calls.mono (Hid.out K1 _) ?_
    rintro e w' ⟨rfl, rfl⟩
    go_wp2_with fail
    refine Calls.mono (Hid.out K2 _) ?_
    rintro e w' ⟨rfl, rfl⟩
    go_wp2
    go_ret
    exact ⟨rfl, hb⟩

set_option maxRecDepth 100000 in
theorem lifted (os : Os) (started : os.Started) (H : Type) (enc : TypeId × Value → H) :
    ReturnsInHanded {} Try.checked os 5 .any (Rows.planWholeSpec.pre6 enc Try.prog Try.f5 Rows.planWholeRow.domain false) (Rows.planWholeSpec.post enc Try.prog Try.f5 false true false false) := by
  refine returnsInHanded_of_change (C := Try.checked) own started (by kernel_rfl) Try.func5
    (ChangeSpec.witness6 (enc := enc) (C := Try.checked) false ⟨#[], #[.int .i64 0], []⟩ 8 (by kernel_rfl) (by kernel_rfl) (by kernel_rfl) (by kernel_rfl)) ?_
  intro W base args ds gs before hval0 hW hcnd _
  have hval : ∀ (j : Nat) t v, Try.f5.params[j]? = some t → args[j]? = some v → Value.okWide Try.prog W .any base t v := hval0
  have hW' := hW
  obtain ⟨p, q, hA0, hV, rfl, hfz, hnd⟩ := hW
  have hA : DataW.TrodAll enc Try.prog W 0 (fun _ => true) true Try.f5.params.toList args.toList ds p := hA0
  rw [Try.params5] at hA hval
  obtain ⟨v0, vs0, d0, ds0, p0, q0, hargs, rfl, rfl, h0, r0⟩ := trodAll_cons hA
  obtain ⟨rfl, rfl, rfl⟩ := trodAll_nil r0
  obtain rfl : args = #[v0] := by cases args; simp_all
  obtain ⟨rfl, rfl⟩ := trodVars_none hV
  obtain ⟨a0, rfl, rfl, rfl, w0⟩ := open_int Try.underlying3 (hval 0 3 v0 rfl rfl) h0
  clear hA0 hval0
  refine (walk a0 W (bounds_i64 w0)).mono fun e W' ⟨he, bel⟩ => ?_
  subst he
  exact ⟨_, rfl, _, _, _, [], _, [], hW', trodAll_mk1 (shut_bool Try.underlying4 _), (trodAll_cons_mk (shut_int Try.underlying3 w0) trodAll_mk0), rfl, bel.frame _, fun h => by cases h⟩

theorem over : Rows.planWholeRow.holds Try.pinned (OpenSpec.ofChange Rows.planWholeSpec) :=
  OpenClaim.holds_of_wide 5 Try.f5 rfl rfl rfl rfl rfl rfl rfl ⟨rfl, rfl, rfl, rfl, rfl⟩ rfl rfl rfl rfl rfl (by kernel_rfl) Try.func5 (by kernel_rfl)
    (of_decide_eq_true (by kernel_rfl)) (by unfold Func.isWrapper; first | (rw [if_pos (by decide +kernel)]; kernel_rfl) | (rw [if_neg (by decide +kernel)]; exact ⟨rfl, rfl⟩))
    (fun os started H enc _ => lifted os started H enc)

theorem proved : Rows.PlanWholeSaid := over
#print axioms proved
end Go.Proofs.Ytmpnofdgfminlaa.planWhole
