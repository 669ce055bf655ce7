/- Determined: the whole-number functions of the printing algorithm answer one value, whatever the world. -/
import Derived.Test.YtnebmbabfghlaaaDoorSumsA
namespace Go.Proofs.YtnebmbabfghlaaaDoor
open Go.RowKit

def U64 (x : Int) : Prop := 0 ≤ x ∧ x < 18446744073709551616
theorem u64_wrap (x : Int) : U64 (IntKind.u64.wrap x) := by
  have h : IntKind.u64.wrap x = x % 18446744073709551616 := by simp [IntKind.wrap]; rfl
  rw [h]; unfold U64; omega
set_option maxHeartbeats 1000000 in
theorem mul64_any (a b : Int) (ha : U64 a) (hb : U64 b) : ∃ hi lo, (∀ w, Calls Tryd.prog 100 #[.int .u64 a, .int .u64 b] w fun e w' => e = .returned (.tuple #[.int .u64 hi, .int .u64 lo]) ∧ w' = w) ∧ U64 hi ∧ U64 lo := by
  obtain ⟨a0, a1⟩ := ha
  obtain ⟨b0, b1⟩ := hb
  apply Exists.intro
  apply Exists.intro
  refine ⟨fun w => ?_, ?_, ?_⟩
  · go_enter Tryd.func100, Tryd.ntmps100
    go_wp2
    go_ret2
    exact ⟨rfl, rfl⟩
  · exact u64_wrap _
  · exact u64_wrap _
theorem log10_any (x : Int) (hx : -3000 ≤ x ∧ x ≤ 3000) (w : World) : Calls Tryd.prog 70 #[.int .i64 x] w fun e w' => e = .returned (.int .i64 (x * 78913 / 262144)) ∧ w' = w := by
  go_enter Tryd.func70, Tryd.ntmps70
  go_wp2
  go_ret
  exact ⟨rfl, rfl⟩
theorem skewed_any (x : Int) (hx : -3000 ≤ x ∧ x ≤ 3000) (w : World) : Calls Tryd.prog 80 #[.int .i64 x] w fun e w' => e = .returned (.int .i64 ((x * 631305 - 261663) / 2097152)) ∧ w' = w := by
  go_enter Tryd.func80, Tryd.ntmps80
  go_wp2
  go_ret
  exact ⟨rfl, rfl⟩
theorem log2_any (x : Int) (hx : -3000 ≤ x ∧ x ≤ 3000) (w : World) : Calls Tryd.prog 82 #[.int .i64 x] w fun e w' => e = .returned (.int .i64 (x * 108853 / 32768)) ∧ w' = w := by
  go_enter Tryd.func82, Tryd.ntmps82
  go_wp2
  go_ret
  exact ⟨rfl, rfl⟩
theorem nudge_any (u d : Int) (hu : U64 u) (_ : -1 ≤ d ∧ d ≤ 1) : ∃ r, (∀ w, Calls Tryd.prog 84 #[.int .u64 u, .int .i64 d] w fun e w' => e = .returned (.int .u64 r) ∧ w' = w) ∧ U64 r := by
  obtain ⟨u0, u1⟩ := hu
  apply Exists.intro
  refine ⟨fun w => ?_, ?_⟩
  · go_enter Tryd.func84, Tryd.ntmps84
    go_wp2
    go_ret
    exact ⟨rfl, rfl⟩
  · exact u64_wrap _
theorem u64_shr (x : Int) (h : U64 x) : U64 (x / 4) := by unfold U64 at *; omega
theorem ceil_any (u : Int) (hu : U64 u) : ∃ r, (∀ w, Calls Tryd.prog 85 #[.int .u64 u] w fun e w' => e = .returned (.int .u64 r) ∧ w' = w) ∧ U64 r := by
  obtain ⟨u0, u1⟩ := hu
  apply Exists.intro
  refine ⟨fun w => ?_, ?_⟩
  · go_enter Tryd.func85, Tryd.ntmps85
    go_wp2
    go_ret
    exact ⟨rfl, rfl⟩
  · exact u64_shr _ (u64_wrap _)
theorem floor_any (u : Int) (hu : U64 u) : ∃ r, (∀ w, Calls Tryd.prog 86 #[.int .u64 u] w fun e w' => e = .returned (.int .u64 r) ∧ w' = w) ∧ U64 r := by
  obtain ⟨u0, u1⟩ := hu
  apply Exists.intro
  refine ⟨fun w => ?_, ?_⟩
  · go_enter Tryd.func86, Tryd.ntmps86
    go_wp2
    go_ret
    exact ⟨rfl, rfl⟩
  · first | exact u64_shr _ (u64_wrap _) | (refine u64_shr _ ?_; unfold U64; omega)
theorem round_any (u : Int) (hu : U64 u) : ∃ r, (∀ w, Calls Tryd.prog 87 #[.int .u64 u] w fun e w' => e = .returned (.int .u64 r) ∧ w' = w) ∧ U64 r := by
  obtain ⟨u0, u1⟩ := hu
  apply Exists.intro
  refine ⟨fun w => ?_, ?_⟩
  · go_enter Tryd.func87, Tryd.ntmps87
    go_wp2
    go_ret
    exact ⟨rfl, rfl⟩
  · exact u64_shr _ (u64_wrap _)
theorem bool2i_any (b : Bool) (w : World) : Calls Tryd.prog 89 #[.bool b] w fun e w' => e = .returned (.int .i64 (if b then 1 else 0)) ∧ w' = w := by
  cases b
  · go_enter Tryd.func89, Tryd.ntmps89
    go_wp2
    go_ret
    exact ⟨rfl, rfl⟩
  · go_enter Tryd.func89, Tryd.ntmps89
    go_wp2
    go_ret
    exact ⟨rfl, rfl⟩
theorem bool2u_any (b : Bool) (w : World) : Calls Tryd.prog 101 #[.bool b] w fun e w' => e = .returned (.int .u64 (if b then 1 else 0)) ∧ w' = w := by
  cases b
  · go_enter Tryd.func101, Tryd.ntmps101
    go_wp2
    go_ret
    exact ⟨rfl, rfl⟩
  · go_enter Tryd.func101, Tryd.ntmps101
    go_wp2
    go_ret
    exact ⟨rfl, rfl⟩
end Go.Proofs.YtnebmbabfghlaaaDoor
