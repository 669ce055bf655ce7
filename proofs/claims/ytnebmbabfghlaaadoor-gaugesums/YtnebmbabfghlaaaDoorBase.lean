/- Contracts of math's small functions on float64 and of the order (ahead, Compare; the document's None, Ahead, Compare, Same), for every bits; they change nothing in memory. -/
import Derived.Test.YtnebmbabfghlaaaDoorProg
import Derived.Test.YtnebmbabfghlaaaDoorMath
import Derived.Laws.Externs
import Derived.WalkKit
import Derived.WalkLawsBesides
namespace Go.Proofs.YtnebmbabfghlaaaDoor
open Go.RowKit

theorem ret_int {k : IntKind} {a b : Int} (h : a = b) : Ending.returned (.int k a) = .returned (.int k b) := by rw [h]
theorem ret_bool {a b : Bool} (h : a = b) : Ending.returned (.bool a) = .returned (.bool b) := by rw [h]
theorem ret_float {a b : Nat} (h : a = b) : Ending.returned (.float .f64 a) = .returned (.float .f64 b) := by rw [h]

theorem run_f64bits (x : Nat) (w : World) : (callFunc 36 #[.float .f64 x]).run Tryd.prog w = .ok (.value (.int .u64 x)) w := by
  rw [run_callFunc_extern Tryd.func36 (by kernel_rfl) (by kernel_rfl) (by kernel_rfl) (e := Extern.MathFloatBits.float64bits) (by kernel_rfl)]
  rfl
theorem run_f64from (n : Int) (w : World) : (callFunc 51 #[.int .u64 n]).run Tryd.prog w = .ok (.value (.float .f64 n.toNat)) w := by
  rw [run_callFunc_extern Tryd.func51 (by kernel_rfl) (by kernel_rfl) (by kernel_rfl) (e := Extern.MathFloatBits.float64frombits) (by kernel_rfl)]
  rfl
theorem run_f64bits' (x : Nat) (w : World) : (callFunc 62 #[.float .f64 x]).run Tryd.prog w = .ok (.value (.int .u64 x)) w := by
  rw [run_callFunc_extern Tryd.func62 (by kernel_rfl) (by kernel_rfl) (by kernel_rfl) (e := Extern.MathFloatBits.float64bits) (by kernel_rfl)]
  rfl
attribute [local go_sem] run_f64bits run_f64from run_f64bits'

theorem fneq_self (x : Nat) : (FloatKind.f64.format.order x x != some Ordering.eq) = nanB x := neq_self x
theorem feq_zero {x : Nat} (h : nanB x = false) : (FloatKind.f64.format.order x 0 == some Ordering.eq) = decide (vI x = 0) := eq_iff h rfl
theorem flt {a b : Nat} (ha : nanB a = false) (hb : nanB b = false) : (FloatKind.f64.format.order a b == some Ordering.lt) = decide (vI a < vI b) := lt_iff ha hb
theorem sign_form (x : Nat) : decide (wrap64 (x : Int) < 0) = negB x := by
  unfold negB wrap64
  rw [Bool.eq_iff_iff]; simp only [decide_eq_true_eq, beq_iff_eq]; omega

theorem isNaN_any (x : Nat) (w : World) : Calls Tryd.prog 49 #[.float .f64 x] w fun e w' => e = .returned (.bool (nanB x)) ∧ w' = w := by
  go_enter Tryd.func49, Tryd.ntmps49
  go_wp2
  go_ret
  exact ⟨ret_bool (fneq_self x), rfl⟩
theorem none_any (x : Nat) (w : World) : Calls Tryd.prog 46 #[.float .f64 x] w fun e w' => e = .returned (.bool (nanB x)) ∧ w' = w := by
  go_enter Tryd.func46, Tryd.ntmps46
  go_wp2
  go_ret
  exact ⟨ret_bool (fneq_self x), rfl⟩
theorem signbit_any (x : Nat) (w : World) : Calls Tryd.prog 53 #[.float .f64 x] w fun e w' => e = .returned (.bool (negB x)) ∧ w' = w := by
  go_enter Tryd.func53, Tryd.ntmps53
  go_wp2
  go_ret
  exact ⟨ret_bool (sign_form x), rfl⟩

set_option maxHeartbeats 1000000 in
theorem ahead_any (a b : Nat) (w : World) :
    Calls Tryd.prog 43 #[.float .f64 a, .float .f64 b] w fun e w' => e = .returned (.bool (ah a b)) ∧ w' = w := by
  cases na : nanB a with
  | true =>
    have H : Hid (ah a b = !nanB b) := by have := ah_nan_l (a := a) (b := b) (.inl na); rw [na] at this; exact this
    go_enter Tryd.func43, Tryd.ntmps43
    go_wp2_with (go_at_call 49; refine (isNaN_any _ _).mono ?_; rintro e w' ⟨rfl, rfl⟩)
    go_ret
    exact ⟨ret_bool (by rw [H.out]), rfl⟩
  | false =>
    cases nb : nanB b with
    | true =>
      have H : Hid (ah a b = false) := by have := ah_nan_l (a := a) (b := b) (.inr nb); rw [na] at this; exact this
      go_enter Tryd.func43, Tryd.ntmps43
      go_wp2_with (go_at_call 49; refine (isNaN_any _ _).mono ?_; rintro e w' ⟨rfl, rfl⟩)
      go_ret
      exact ⟨ret_bool (by rw [H.out]), rfl⟩
    | false =>
      have za := feq_zero na
      have zb := feq_zero nb
      have hlt := flt na nb
      by_cases ea : vI a = 0
      · have za' : (FloatKind.f64.format.order a 0 == some Ordering.eq) = true := by rw [za]; simp [ea]
        by_cases eb : vI b = 0
        · have zb' : (FloatKind.f64.format.order b 0 == some Ordering.eq) = true := by rw [zb]; simp [eb]
          have H : Hid (ah a b = (negB a && !negB b)) := ah_zero na nb ea eb
          clear za zb hlt ea eb
          cases sa : negB a with
          | true =>
            rw [sa] at H
            go_enter Tryd.func43, Tryd.ntmps43
            go_wp2_with (first | (go_at_call 49; refine (isNaN_any _ _).mono ?_; rintro e w' ⟨rfl, rfl⟩) | (go_at_call 53; refine (signbit_any _ _).mono ?_; rintro e w' ⟨rfl, rfl⟩))
            go_ret
            exact ⟨ret_bool (by rw [H.out]; rfl), rfl⟩
          | false =>
            rw [sa] at H
            go_enter Tryd.func43, Tryd.ntmps43
            go_wp2_with (first | (go_at_call 49; refine (isNaN_any _ _).mono ?_; rintro e w' ⟨rfl, rfl⟩) | (go_at_call 53; refine (signbit_any _ _).mono ?_; rintro e w' ⟨rfl, rfl⟩))
            go_ret
            exact ⟨ret_bool (by rw [H.out]; rfl), rfl⟩
        · have zb' : (FloatKind.f64.format.order b 0 == some Ordering.eq) = false := by rw [zb]; simp [eb]
          have H : Hid (ah a b = decide (vI a < vI b)) := ah_num na nb (fun h => eb h.2)
          have H2 : Hid ((FloatKind.f64.format.order a b == some Ordering.lt) = decide (vI a < vI b)) := hlt
          clear za zb hlt ea eb
          go_enter Tryd.func43, Tryd.ntmps43
          go_wp2_with (go_at_call 49; refine (isNaN_any _ _).mono ?_; rintro e w' ⟨rfl, rfl⟩)
          go_ret
          exact ⟨ret_bool (by rw [H.out]; exact H2.out), rfl⟩
      · have za' : (FloatKind.f64.format.order a 0 == some Ordering.eq) = false := by rw [za]; simp [ea]
        have H : Hid (ah a b = decide (vI a < vI b)) := ah_num na nb (fun h => ea h.1)
        have H2 : Hid ((FloatKind.f64.format.order a b == some Ordering.lt) = decide (vI a < vI b)) := hlt
        clear za zb hlt ea
        go_enter Tryd.func43, Tryd.ntmps43
        go_wp2_with (go_at_call 49; refine (isNaN_any _ _).mono ?_; rintro e w' ⟨rfl, rfl⟩)
        go_ret
        exact ⟨ret_bool (by rw [H.out]; exact H2.out), rfl⟩

set_option maxHeartbeats 1000000 in
theorem refAhead_any (a b : Nat) (w : World) :
    Calls Tryd.prog 45 #[.float .f64 a, .float .f64 b] w fun e w' => e = .returned (.bool (ah a b)) ∧ w' = w := by
  cases na : nanB a with
  | true =>
    have H : Hid (ah a b = !nanB b) := by have := ah_nan_l (a := a) (b := b) (.inl na); rw [na] at this; exact this
    go_enter Tryd.func45, Tryd.ntmps45
    go_wp2_with (go_at_call 46; refine (none_any _ _).mono ?_; rintro e w' ⟨rfl, rfl⟩)
    go_ret
    exact ⟨ret_bool (by rw [H.out]), rfl⟩
  | false =>
    cases nb : nanB b with
    | true =>
      have H : Hid (ah a b = false) := by have := ah_nan_l (a := a) (b := b) (.inr nb); rw [na] at this; exact this
      go_enter Tryd.func45, Tryd.ntmps45
      go_wp2_with (go_at_call 46; refine (none_any _ _).mono ?_; rintro e w' ⟨rfl, rfl⟩)
      go_ret
      exact ⟨ret_bool (by rw [H.out]), rfl⟩
    | false =>
      have za := feq_zero na
      have zb := feq_zero nb
      have hlt := flt na nb
      by_cases ea : vI a = 0
      · have za' : (FloatKind.f64.format.order a 0 == some Ordering.eq) = true := by rw [za]; simp [ea]
        by_cases eb : vI b = 0
        · have zb' : (FloatKind.f64.format.order b 0 == some Ordering.eq) = true := by rw [zb]; simp [eb]
          have H : Hid (ah a b = (negB a && !negB b)) := ah_zero na nb ea eb
          clear za zb hlt ea eb
          cases sa : negB a with
          | true =>
            rw [sa] at H
            go_enter Tryd.func45, Tryd.ntmps45
            go_wp2_with (first | (go_at_call 46; refine (none_any _ _).mono ?_; rintro e w' ⟨rfl, rfl⟩) | (go_at_call 53; refine (signbit_any _ _).mono ?_; rintro e w' ⟨rfl, rfl⟩))
            go_ret
            exact ⟨ret_bool (by rw [H.out]; rfl), rfl⟩
          | false =>
            rw [sa] at H
            go_enter Tryd.func45, Tryd.ntmps45
            go_wp2_with (first | (go_at_call 46; refine (none_any _ _).mono ?_; rintro e w' ⟨rfl, rfl⟩) | (go_at_call 53; refine (signbit_any _ _).mono ?_; rintro e w' ⟨rfl, rfl⟩))
            go_ret
            exact ⟨ret_bool (by rw [H.out]; rfl), rfl⟩
        · have zb' : (FloatKind.f64.format.order b 0 == some Ordering.eq) = false := by rw [zb]; simp [eb]
          have H : Hid (ah a b = decide (vI a < vI b)) := ah_num na nb (fun h => eb h.2)
          have H2 : Hid ((FloatKind.f64.format.order a b == some Ordering.lt) = decide (vI a < vI b)) := hlt
          clear za zb hlt ea eb
          go_enter Tryd.func45, Tryd.ntmps45
          go_wp2_with (go_at_call 46; refine (none_any _ _).mono ?_; rintro e w' ⟨rfl, rfl⟩)
          go_ret
          exact ⟨ret_bool (by rw [H.out]; exact H2.out), rfl⟩
      · have za' : (FloatKind.f64.format.order a 0 == some Ordering.eq) = false := by rw [za]; simp [ea]
        have H : Hid (ah a b = decide (vI a < vI b)) := ah_num na nb (fun h => ea h.1)
        have H2 : Hid ((FloatKind.f64.format.order a b == some Ordering.lt) = decide (vI a < vI b)) := hlt
        clear za zb hlt ea
        go_enter Tryd.func45, Tryd.ntmps45
        go_wp2_with (go_at_call 46; refine (none_any _ _).mono ?_; rintro e w' ⟨rfl, rfl⟩)
        go_ret
        exact ⟨ret_bool (by rw [H.out]; exact H2.out), rfl⟩

/-- -1, 0, 1: by the places. -/
def cmpI (a b : Nat) : Int := if ah a b then -1 else if ah b a then 1 else 0

theorem compare_any (a b : Nat) (w : World) : Calls Tryd.prog 15 #[.float .f64 a, .float .f64 b] w fun e w' => e = .returned (.int .i64 (cmpI a b)) ∧ w' = w := by
  unfold cmpI
  cases h1 : ah a b with
  | true =>
    go_enter Tryd.func15, Tryd.ntmps15
    go_wp2_with (go_at_call 43; refine (ahead_any _ _ _).mono ?_; rintro e w' ⟨rfl, rfl⟩)
    go_ret
    exact ⟨rfl, rfl⟩
  | false =>
    cases h2 : ah b a with
    | true =>
      go_enter Tryd.func15, Tryd.ntmps15
      go_wp2_with (go_at_call 43; refine (ahead_any _ _ _).mono ?_; rintro e w' ⟨rfl, rfl⟩)
      go_ret
      exact ⟨rfl, rfl⟩
    | false =>
      go_enter Tryd.func15, Tryd.ntmps15
      go_wp2_with (go_at_call 43; refine (ahead_any _ _ _).mono ?_; rintro e w' ⟨rfl, rfl⟩)
      go_ret
      exact ⟨rfl, rfl⟩
theorem refCompare_any (a b : Nat) (w : World) : Calls Tryd.prog 16 #[.float .f64 a, .float .f64 b] w fun e w' => e = .returned (.int .i64 (cmpI a b)) ∧ w' = w := by
  unfold cmpI
  cases h1 : ah a b with
  | true =>
    go_enter Tryd.func16, Tryd.ntmps16
    go_wp2_with (go_at_call 45; refine (refAhead_any _ _ _).mono ?_; rintro e w' ⟨rfl, rfl⟩)
    go_ret
    exact ⟨rfl, rfl⟩
  | false =>
    cases h2 : ah b a with
    | true =>
      go_enter Tryd.func16, Tryd.ntmps16
      go_wp2_with (go_at_call 45; refine (refAhead_any _ _ _).mono ?_; rintro e w' ⟨rfl, rfl⟩)
      go_ret
      exact ⟨rfl, rfl⟩
    | false =>
      go_enter Tryd.func16, Tryd.ntmps16
      go_wp2_with (go_at_call 45; refine (refAhead_any _ _ _).mono ?_; rintro e w' ⟨rfl, rfl⟩)
      go_ret
      exact ⟨rfl, rfl⟩

theorem beq_cast (a b : Nat) : ((a : Int) == (b : Int)) = (a == b) := by
  rw [Bool.eq_iff_iff]; simp only [beq_iff_eq]; omega
/-- Same: the same bits, or both no numbers. -/
theorem same_any (a b : Nat) (w : World) : Calls Tryd.prog 17 #[.float .f64 a, .float .f64 b] w fun e w' => e = .returned (.bool (sameB a b)) ∧ w' = w := by
  unfold sameB
  have hc := beq_cast a b
  cases h1 : (a == b) with
  | true =>
    rw [h1] at hc
    go_enter Tryd.func17, Tryd.ntmps17
    go_wp2_with (go_at_call 46; refine (none_any _ _).mono ?_; rintro e w' ⟨rfl, rfl⟩)
    go_ret
    exact ⟨rfl, rfl⟩
  | false =>
    rw [h1] at hc
    cases h2 : nanB a with
    | true =>
      go_enter Tryd.func17, Tryd.ntmps17
      go_wp2_with (go_at_call 46; refine (none_any _ _).mono ?_; rintro e w' ⟨rfl, rfl⟩)
      go_ret
      exact ⟨rfl, rfl⟩
    | false =>
      go_enter Tryd.func17, Tryd.ntmps17
      go_wp2_with (go_at_call 46; refine (none_any _ _).mono ?_; rintro e w' ⟨rfl, rfl⟩)
      go_ret
      exact ⟨rfl, rfl⟩

theorem greatest1_any (a b : Nat) (w : World) : Calls Tryd.prog 44 #[.float .f64 a, .float .f64 b] w fun e w' => e = .returned (.bool (ah b a)) ∧ w' = w := by
  go_enter Tryd.func44, Tryd.ntmps44
  go_wp2_with (go_at_call 43; refine (ahead_any _ _ _).mono ?_; rintro e w' ⟨rfl, rfl⟩)
  go_ret
  exact ⟨rfl, rfl⟩

/-- Clamp, by the places. -/
def clampF (x lo hi : Nat) : Nat := if ah hi lo || ah x lo then lo else if ah hi x then hi else x
theorem clamp_any (x lo hi : Nat) (w : World) : Calls Tryd.prog 29 #[.float .f64 x, .float .f64 lo, .float .f64 hi] w fun e w' => e = .returned (.float .f64 (clampF x lo hi)) ∧ w' = w := by
  unfold clampF
  cases h1 : ah hi lo <;> cases h2 : ah x lo <;> cases h3 : ah hi x
  all_goals (
    go_enter Tryd.func29, Tryd.ntmps29
    go_wp2_with (go_at_call 43; refine (ahead_any _ _ _).mono ?_; rintro e w' ⟨rfl, rfl⟩)
    go_ret
    exact ⟨rfl, rfl⟩)
theorem refClamp_any (x lo hi : Nat) (w : World) : Calls Tryd.prog 30 #[.float .f64 x, .float .f64 lo, .float .f64 hi] w fun e w' => e = .returned (.float .f64 (clampF x lo hi)) ∧ w' = w := by
  unfold clampF
  cases h1 : ah hi lo <;> cases h2 : ah x lo <;> cases h3 : ah hi x
  all_goals (
    go_enter Tryd.func30, Tryd.ntmps30
    go_wp2_with (go_at_call 45; refine (refAhead_any _ _ _).mono ?_; rintro e w' ⟨rfl, rfl⟩)
    go_ret
    exact ⟨rfl, rfl⟩)
end Go.Proofs.YtnebmbabfghlaaaDoor
