/- GaugeWhole's walk: for every three float64s it answers true. -/
import Derived.Test.YtnebmbabfghlaaaDoorLives
namespace Go.Proofs.YtnebmbabfghlaaaDoor.gaugeWhole
open Go.RowKit
attribute [local go_sem] run_f64bits run_f64from run_f64bits'

theorem cmp_lt {a b : Nat} (h : K a < K b) : cmpI a b = -1 := by unfold cmpI ah; simp [h]
theorem cmp_gt {a b : Nat} (h : K b < K a) : cmpI a b = 1 := by
  have h' : ¬ K a < K b := by omega
  unfold cmpI ah; simp [h, h']
theorem cmp_eq {a b : Nat} (h : K a = K b) : cmpI a b = 0 := by
  have h' : ¬ K a < K b := by omega
  have h2 : ¬ K b < K a := by omega
  unfold cmpI ah; simp [h', h2]

theorem three (a b c : Nat) (ha : a < 2 ^ 64) (hb : b < 2 ^ 64) : ∃ (x y z : Int), cmpI a b = x ∧ cmpI b c = y ∧ cmpI a c = z ∧ cmpI b a = -x ∧ cmpI a a = 0 ∧ sameB a b = decide (x = 0) ∧
    ((x = -1 ∧ (y = -1 ∧ z = -1 ∨ y = 0 ∧ z = -1 ∨ y = 1 ∧ (z = -1 ∨ z = 0 ∨ z = 1))) ∨ (x = 0 ∧ (y = -1 ∧ z = -1 ∨ y = 0 ∧ z = 0 ∨ y = 1 ∧ z = 1)) ∨ (x = 1 ∧ (y = -1 ∧ (z = -1 ∨ z = 0 ∨ z = 1) ∨ y = 0 ∧ z = 1 ∨ y = 1 ∧ z = 1))) := by
  have hs := same_iff ha hb
  have h0 : cmpI a a = 0 := cmp_eq rfl
  have hne : ∀ {x : Int}, x ≠ 0 → K a ≠ K b → sameB a b = decide (x = 0) := fun {x} hx h => by
    have : sameB a b = false := by
      cases e : sameB a b with
      | false => rfl
      | true => exact absurd (hs.1 e) h
    rw [this]; simp [hx]
  rcases Int.lt_trichotomy (K a) (K b) with h1 | h1 | h1
  · refine ⟨-1, cmpI b c, cmpI a c, cmp_lt h1, rfl, rfl, cmp_gt h1, h0, hne (by omega) (by omega), ?_⟩
    rcases Int.lt_trichotomy (K b) (K c) with h2 | h2 | h2
    · rw [cmp_lt h2, cmp_lt (show K a < K c by omega)]; omega
    · rw [cmp_eq h2, cmp_lt (show K a < K c by omega)]; omega
    · rw [cmp_gt h2]
      rcases Int.lt_trichotomy (K a) (K c) with h3 | h3 | h3
      · rw [cmp_lt h3]; omega
      · rw [cmp_eq h3]; omega
      · rw [cmp_gt h3]; omega
  · refine ⟨0, cmpI b c, cmpI a c, cmp_eq h1, rfl, rfl, cmp_eq h1.symm, h0, by rw [hs.2 h1]; rfl, ?_⟩
    rcases Int.lt_trichotomy (K b) (K c) with h2 | h2 | h2
    · rw [cmp_lt h2, cmp_lt (show K a < K c by omega)]; omega
    · rw [cmp_eq h2, cmp_eq (show K a = K c by omega)]; omega
    · rw [cmp_gt h2, cmp_gt (show K c < K a by omega)]; omega
  · refine ⟨1, cmpI b c, cmpI a c, cmp_gt h1, rfl, rfl, cmp_lt h1, h0, hne (by omega) (by omega), ?_⟩
    rcases Int.lt_trichotomy (K b) (K c) with h2 | h2 | h2
    · rw [cmp_lt h2]
      rcases Int.lt_trichotomy (K a) (K c) with h3 | h3 | h3
      · rw [cmp_lt h3]; omega
      · rw [cmp_eq h3]; omega
      · rw [cmp_gt h3]; omega
    · rw [cmp_eq h2, cmp_gt (show K c < K a by omega)]; omega
    · rw [cmp_gt h2, cmp_gt (show K c < K a by omega)]; omega

/-- How 'same' comes about. -/
theorem ways (a b : Nat) : (a == b) = true ∧ sameB a b = true ∨ (a == b) = false ∧ nanB a = true ∧ nanB b = sameB a b ∨ (a == b) = false ∧ nanB a = false ∧ sameB a b = false := by
  unfold sameB
  cases a == b <;> cases nanB a <;> cases nanB b <;> simp

set_option maxHeartbeats 4000000 in
theorem walk_of (a b c : Nat) (x y z : Int) (w : World) (hx : cmpI a b = x) (hy : cmpI b c = y) (hz : cmpI a c = z) (hv : cmpI b a = -x) (hs : cmpI a a = 0) (hsame : sameB a b = decide (x = 0))
    (h : (x = -1 ∧ (y = -1 ∧ z = -1 ∨ y = 0 ∧ z = -1 ∨ y = 1 ∧ (z = -1 ∨ z = 0 ∨ z = 1))) ∨ (x = 0 ∧ (y = -1 ∧ z = -1 ∨ y = 0 ∧ z = 0 ∨ y = 1 ∧ z = 1)) ∨ (x = 1 ∧ (y = -1 ∧ (z = -1 ∨ z = 0 ∨ z = 1) ∨ y = 0 ∧ z = 1 ∨ y = 1 ∧ z = 1))) :
    Calls Tryd.prog 6 #[.float .f64 a, .float .f64 b, .float .f64 c] w fun e w' => e = .returned (.bool true) ∧ Below w.heap.size w w' := by
  have hc := beq_cast a b
  have na := fneq_self a
  have nb := fneq_self b
  have hw := ways a b
  rw [hsame] at hw
  clear hsame
  rcases hw with ⟨e1, e2⟩ | ⟨e1, e2, e3⟩ | ⟨e1, e2, e3⟩
  · rw [e1] at hc
    rcases h with ⟨rfl, ⟨rfl, rfl⟩ | ⟨rfl, rfl⟩ | ⟨rfl, rfl | rfl | rfl⟩⟩ | ⟨rfl, ⟨rfl, rfl⟩ | ⟨rfl, rfl⟩ | ⟨rfl, rfl⟩⟩ | ⟨rfl, ⟨rfl, rfl | rfl | rfl⟩ | ⟨rfl, rfl⟩ | ⟨rfl, rfl⟩⟩
    all_goals first | (exfalso; revert e2; decide) | skip
    all_goals (
      clear e1 e2 na nb
      go_enter Tryd.func6, Tryd.ntmps6
      go_wp2_with fail
      refine (lives_any _).mono ?_
      rintro e w1 ⟨rfl, hbe⟩
      go_wp2_with (go_at_call 15; refine (compare_any _ _ _).mono ?_; (first | rw [hx] | rw [hy] | rw [hz] | rw [hv] | rw [hs]); rintro e w' ⟨rfl, rfl⟩)
      go_ret
      exact ⟨rfl, hbe⟩)
  · rw [e1] at hc
    rw [e2] at na
    rw [e3] at nb
    rcases h with ⟨rfl, ⟨rfl, rfl⟩ | ⟨rfl, rfl⟩ | ⟨rfl, rfl | rfl | rfl⟩⟩ | ⟨rfl, ⟨rfl, rfl⟩ | ⟨rfl, rfl⟩ | ⟨rfl, rfl⟩⟩ | ⟨rfl, ⟨rfl, rfl | rfl | rfl⟩ | ⟨rfl, rfl⟩ | ⟨rfl, rfl⟩⟩
    all_goals (
      have nb' := nb
      clear nb
      (first | have nb : (FloatKind.f64.format.order b b != some Ordering.eq) = true := nb'.trans (by decide) | have nb : (FloatKind.f64.format.order b b != some Ordering.eq) = false := nb'.trans (by decide))
      clear nb' e1 e2 e3
      go_enter Tryd.func6, Tryd.ntmps6
      go_wp2_with fail
      refine (lives_any _).mono ?_
      rintro e w1 ⟨rfl, hbe⟩
      go_wp2_with (go_at_call 15; refine (compare_any _ _ _).mono ?_; (first | rw [hx] | rw [hy] | rw [hz] | rw [hv] | rw [hs]); rintro e w' ⟨rfl, rfl⟩)
      go_ret
      exact ⟨rfl, hbe⟩)
  · rw [e1] at hc
    rw [e2] at na
    rcases h with ⟨rfl, ⟨rfl, rfl⟩ | ⟨rfl, rfl⟩ | ⟨rfl, rfl | rfl | rfl⟩⟩ | ⟨rfl, ⟨rfl, rfl⟩ | ⟨rfl, rfl⟩ | ⟨rfl, rfl⟩⟩ | ⟨rfl, ⟨rfl, rfl | rfl | rfl⟩ | ⟨rfl, rfl⟩ | ⟨rfl, rfl⟩⟩
    all_goals first | (exfalso; revert e3; decide) | skip
    all_goals (
      clear e1 e2 e3 nb
      go_enter Tryd.func6, Tryd.ntmps6
      go_wp2_with fail
      refine (lives_any _).mono ?_
      rintro e w1 ⟨rfl, hbe⟩
      go_wp2_with (go_at_call 15; refine (compare_any _ _ _).mono ?_; (first | rw [hx] | rw [hy] | rw [hz] | rw [hv] | rw [hs]); rintro e w' ⟨rfl, rfl⟩)
      go_ret
      exact ⟨rfl, hbe⟩)

theorem walk (a b c : Nat) (w : World) (ha : a < 2 ^ 64) (hb : b < 2 ^ 64) :
    Calls Tryd.prog 6 #[.float .f64 a, .float .f64 b, .float .f64 c] w fun e w' => e = .returned (.bool true) ∧ Below w.heap.size w w' := by
  obtain ⟨x, y, z, hx, hy, hz, hv, hs, hsame, h⟩ := three a b c ha hb
  exact walk_of a b c x y z w hx hy hz hv hs hsame h
end Go.Proofs.YtnebmbabfghlaaaDoor.gaugeWhole
