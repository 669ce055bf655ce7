/- Plain facts on fences. -/
import Derived.Test.YtoabgkkfhoiagaaFacts
namespace Go.Proofs.Ytoabgkkfhoiagaa

theorem fence_loose (M : Mem) (he : M.err = 0) (hall : ∀ j v, M.loose j = some v → M.way j = some v) (j : Int) : M.fence.loose j = none := by
  unfold Mem.fence
  rw [if_pos he]
  show looseTo M (fun _ => false) j = none
  unfold looseTo
  cases hl : M.loose j with
  | none => split <;> rfl
  | some v => rw [if_pos]; simp [hall j v hl]

theorem fence_sure (M : Mem) (he : M.err = 0) (hall : ∀ j v, M.loose j = some v → M.way j = some v) (hor : ∀ j, M.way j = none ∨ M.way j = M.loose j) : M.fence.sure = M.image := by
  unfold Mem.fence
  rw [if_pos he]
  show sureTo M (fun _ => false) = M.image
  unfold sureTo Mem.image
  refine List.map_congr_left fun i hi => ?_
  have hi' := List.mem_range.1 hi
  rw [if_pos rfl, read_of M i hi']
  cases hl : M.loose i with
  | none =>
    rcases hor i with h | h
    · rw [h]
    · rw [h, hl]
  | some v => rw [hall i v hl]

theorem fence_calls (M : Mem) : M.fence.calls = M.calls + 1 := by unfold Mem.fence; split <;> rfl
theorem fence_len (M : Mem) : M.fence.sure.length = M.sure.length := by unfold Mem.fence; split <;> simp [fenceTo, sureTo, Mem.counted]

end Go.Proofs.Ytoabgkkfhoiagaa
