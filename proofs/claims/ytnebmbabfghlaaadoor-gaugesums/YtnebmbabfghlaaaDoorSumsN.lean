/- numDigits of nought. -/
import Derived.Test.YtnebmbabfghlaaaDoorSumsI
namespace Go.Proofs.YtnebmbabfghlaaaDoor
open Go.RowKit Go.Lib
theorem numDigits_zero (w : World) (h : w.cell? ⟨2, 0, none⟩ = some (.int .u64 1)) : Calls Tryd.prog 69 #[.int .u64 0] w fun e w' => e = .returned (.int .i64 0) ∧ w' = w := by
  have e0 : Lib.bitLen (0 : Int).toNat = 0 := by decide +kernel
  have HL := len64_any 0 w (by decide) (by decide)
  rw [e0] at HL
  have HL' : Hid (Calls Tryd.prog 66 #[.int .u64 0] w fun e w' => e = .returned (.int .i64 0) ∧ w' = w) := HL
  clear HL e0
  go_enter Tryd.func69, Tryd.ntmps69
  go_wp2_with fail
  refine Calls.mono HL'.out ?_
  rintro e w1 ⟨rfl, rfl⟩
  go_wp2_with fail
  refine Calls.mono (log10_any 0 (by decide) _) ?_
  rintro e w1 ⟨rfl, rfl⟩
  go_wp2_with fail
  refine Calls.mono (bool2i_any _ _) ?_
  rintro e w1 ⟨rfl, rfl⟩
  go_wp2
  go_ret
  exact ⟨rfl, rfl⟩
end Go.Proofs.YtnebmbabfghlaaaDoor
