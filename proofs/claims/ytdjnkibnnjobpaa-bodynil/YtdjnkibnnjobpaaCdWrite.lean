/- Contracts of Write and Read (the program's): a card's words in a new row, and the card of any words. -/
import Derived.Test.YtdjnkibnnjobpaaCdLay
import Derived.Test.YtdjnkibnnjobpaaCdUnlay
import Derived.Laws.ResultCell
namespace Go.Proofs.Ytdjnkibnnjobpaa.Cd
open Go.RowKit

/-- The block g holds eight words. -/
def Row8 (w : World) (g : Nat) (a0 a1 a2 a3 a4 a5 a6 a7 : Int) : Prop := w.cell? ⟨g, 0, none⟩ = some (.int .u64 a0) ∧ w.cell? ⟨g, 1, none⟩ = some (.int .u64 a1) ∧ w.cell? ⟨g, 2, none⟩ = some (.int .u64 a2) ∧ w.cell? ⟨g, 3, none⟩ = some (.int .u64 a3) ∧ w.cell? ⟨g, 4, none⟩ = some (.int .u64 a4) ∧ w.cell? ⟨g, 5, none⟩ = some (.int .u64 a5) ∧ w.cell? ⟨g, 6, none⟩ = some (.int .u64 a6) ∧ w.cell? ⟨g, 7, none⟩ = some (.int .u64 a7)
theorem Row8.later {w w' : World} {g : Nat} {a0 a1 a2 a3 a4 a5 a6 a7 : Int} (h : Row8 w g a0 a1 a2 a3 a4 a5 a6 a7) {B : Nat} (hg : g < B) (hb : Below B w w') : Row8 w' g a0 a1 a2 a3 a4 a5 a6 a7 := by
  unfold Row8 at h ⊢
  have e : ∀ o, w'.cell? ⟨g, o, none⟩ = w.cell? ⟨g, o, none⟩ := fun o => hb.cell (p := ⟨g, o, none⟩) hg
  simp only [e]
  exact h
/-- A slice of the eight words of a card, made anew. -/
def Wrote (w w' : World) (e : Ending) (k l s v d0 d1 d2 d3 d4 m : Int) : Prop :=
  ∃ g, e = .returned (.tuple #[.slice (some ⟨g, 0, none⟩) 8 8, .int .i64 0]) ∧ w.heap.size ≤ g ∧ g < w'.heap.size ∧ Row8 w' g (wd0 k l s) v (wd2 d0 d1 d2 d3) (wd3 d4 m) 0 0 0 0 ∧ Below w.heap.size w w'

end Go.Proofs.Ytdjnkibnnjobpaa.Cd
