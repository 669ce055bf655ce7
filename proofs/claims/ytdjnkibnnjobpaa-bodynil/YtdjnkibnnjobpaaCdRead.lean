/- Contract of Read: the card of eight words, or that they are no card's. -/
import Derived.Test.YtdjnkibnnjobpaaCdWrite
namespace Go.Proofs.Ytdjnkibnnjobpaa.Cd
open Go.RowKit

/-- Eight words lie from the place o of the block b on. -/
def Src (w : World) (b o : Nat) (a0 a1 a2 a3 a4 a5 a6 a7 : Int) : Prop := b < w.heap.size ∧ w.cell? ⟨b, o, none⟩ = some (.int .u64 a0) ∧ w.cell? ⟨b, o + 1, none⟩ = some (.int .u64 a1) ∧ w.cell? ⟨b, o + 2, none⟩ = some (.int .u64 a2) ∧ w.cell? ⟨b, o + 3, none⟩ = some (.int .u64 a3) ∧ w.cell? ⟨b, o + 4, none⟩ = some (.int .u64 a4) ∧ w.cell? ⟨b, o + 5, none⟩ = some (.int .u64 a5) ∧ w.cell? ⟨b, o + 6, none⟩ = some (.int .u64 a6) ∧ w.cell? ⟨b, o + 7, none⟩ = some (.int .u64 a7)
theorem Src.later {w w' : World} {b o : Nat} {a0 a1 a2 a3 a4 a5 a6 a7 : Int} (h : Src w b o a0 a1 a2 a3 a4 a5 a6 a7) {B : Nat} (hB : w.heap.size ≤ B) (hb : Below B w w') : Src w' b o a0 a1 a2 a3 a4 a5 a6 a7 := by
  unfold Src at h ⊢
  have e : ∀ o, w'.cell? ⟨b, o, none⟩ = w.cell? ⟨b, o, none⟩ := fun o => hb.cell (p := ⟨b, o, none⟩) (show b < B by omega)
  simp only [e]
  exact ⟨by have := hb.size; omega, h.2⟩

/-- The result's block, as it was made. -/
def Zero (w : World) (g : Nat) : Prop := w.heap[g]? = some (.cells #[.int .i64 0, .int .i64 0, .int .i64 0, .int .u64 0, .int .i64 0, .int .i64 0, .int .i64 0, .int .i64 0, .int .i64 0, .int .i64 0] 26 (0, 0))
theorem Zero.later {w w' : World} {g : Nat} (h : Zero w g) {B : Nat} (hg : g < B) (hb : Below B w w') : Zero w' g := by
  unfold Zero at h ⊢
  rw [hb.block g hg]
  exact h
theorem Zero.frozen {w : World} {g : Nat} (h : Zero w g) (i : Nat) : w.frozen? ⟨g, i, none⟩ = false := frozen_of_row w g i _ _ h
theorem Zero.ten {w : World} {g : Nat} (h : Zero w g) : Ten w g 0 0 0 0 0 0 0 0 0 0 := by
  unfold Ten
  unfold Zero at h
  simp [cell_of_row w g _ _ _ _ h]

end Go.Proofs.Ytdjnkibnnjobpaa.Cd
