/- A step in a box of its own. -/
import Derived.Test.YtomlbifplliakaaGreatAg
namespace Go.Proofs.YtomlbifplliakaaGreat
open Go.RowKit Go.Maps Go.ChangeMaps

/-- The block g holds the step. -/
structure BoxAt (w : World) (g : Nat) (o : Vop) : Prop where
  c0 : w.cell? ⟨g, 0, none⟩ = some (.int .i64 o.kind)
  c1 : w.cell? ⟨g, 1, none⟩ = some (.int .i64 o.at_)
  c2 : w.cell? ⟨g, 2, none⟩ = some (.int .u64 o.v)
  c3 : w.cell? ⟨g, 3, none⟩ = some (.int .i64 o.c.k)
  c4 : w.cell? ⟨g, 4, none⟩ = some (.int .i64 o.c.l)
  c5 : w.cell? ⟨g, 5, none⟩ = some (.int .i64 o.c.s)
  c6 : w.cell? ⟨g, 6, none⟩ = some (.int .u64 o.c.v)
  c7 : w.cell? ⟨g, 7, none⟩ = some (.int .i64 o.c.d0)
  c8 : w.cell? ⟨g, 8, none⟩ = some (.int .i64 o.c.d1)
  c9 : w.cell? ⟨g, 9, none⟩ = some (.int .i64 o.c.d2)
  c10 : w.cell? ⟨g, 10, none⟩ = some (.int .i64 o.c.d3)
  c11 : w.cell? ⟨g, 11, none⟩ = some (.int .i64 o.c.d4)
  c12 : w.cell? ⟨g, 12, none⟩ = some (.int .i64 o.c.m)
  c13 : w.cell? ⟨g, 13, none⟩ = some (.slice o.la o.ln o.lc)
  c14 : w.cell? ⟨g, 14, none⟩ = some (.slice o.na o.nn o.nc)
theorem BoxAt.later {w w' : World} {g : Nat} {o : Vop} (h : BoxAt w g o) {B : Nat} (hg : g < B) (hb : Below B w w') : BoxAt w' g o := by
  have e : ∀ i, w'.cell? ⟨g, i, none⟩ = w.cell? ⟨g, i, none⟩ := fun i => hb.cell (p := ⟨g, i, none⟩) hg
  exact ⟨(e _).trans h.c0, (e _).trans h.c1, (e _).trans h.c2, (e _).trans h.c3, (e _).trans h.c4, (e _).trans h.c5, (e _).trans h.c6, (e _).trans h.c7, (e _).trans h.c8, (e _).trans h.c9, (e _).trans h.c10, (e _).trans h.c11, (e _).trans h.c12, (e _).trans h.c13, (e _).trans h.c14⟩
theorem BoxAt.only {w w' : World} {g : Nat} {o : Vop} (h : BoxAt w g o) {X : List Nat} (hb : Only X w w') (hg : g ∉ X) : BoxAt w' g o := by
  have hl : g < w.heap.size := World.block_lt_of_cell? w _ h.c0
  have e : ∀ i, w'.cell? ⟨g, i, none⟩ = w.cell? ⟨g, i, none⟩ := fun i => World.cell?_of_block (w := w) (hb.block g hl hg)
  exact ⟨(e _).trans h.c0, (e _).trans h.c1, (e _).trans h.c2, (e _).trans h.c3, (e _).trans h.c4, (e _).trans h.c5, (e _).trans h.c6, (e _).trans h.c7, (e _).trans h.c8, (e _).trans h.c9, (e _).trans h.c10, (e _).trans h.c11, (e _).trans h.c12, (e _).trans h.c13, (e _).trans h.c14⟩
theorem box_new (w : World) (o : Vop) : ∃ W : World, w.alloc (.cells #[.int .i64 o.kind, .int .i64 o.at_, .int .u64 o.v, .int .i64 o.c.k, .int .i64 o.c.l, .int .i64 o.c.s, .int .u64 o.c.v, .int .i64 o.c.d0, .int .i64 o.c.d1, .int .i64 o.c.d2, .int .i64 o.c.d3, .int .i64 o.c.d4, .int .i64 o.c.m, .slice o.la o.ln o.lc, .slice o.na o.nn o.nc] 41) = W ∧ BoxAt W w.heap.size o ∧ Below w.heap.size w W ∧ w.heap.size < W.heap.size := by
  refine ⟨_, rfl, ?_, (Below.refl _ _).alloc (Nat.le_refl _) _, by simp⟩
  exact ⟨by simp [go_sem], by simp [go_sem], by simp [go_sem], by simp [go_sem], by simp [go_sem], by simp [go_sem], by simp [go_sem], by simp [go_sem], by simp [go_sem], by simp [go_sem], by simp [go_sem], by simp [go_sem], by simp [go_sem], by simp [go_sem], by simp [go_sem]⟩
theorem vals_eq (o : Vop) : o.vals.toArray = #[.int .i64 o.kind, .int .i64 o.at_, .int .u64 o.v, .int .i64 o.c.k, .int .i64 o.c.l, .int .i64 o.c.s, .int .u64 o.c.v, .int .i64 o.c.d0, .int .i64 o.c.d1, .int .i64 o.c.d2, .int .i64 o.c.d3, .int .i64 o.c.d4, .int .i64 o.c.m, .slice o.la o.ln o.lc, .slice o.na o.nn o.nc] := rfl

end Go.Proofs.YtomlbifplliakaaGreat
