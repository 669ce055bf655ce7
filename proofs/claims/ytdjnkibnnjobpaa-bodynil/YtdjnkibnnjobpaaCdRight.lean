/- Contracts of Right (the program's and the document's): which cards may be. -/
import Derived.Test.YtdjnkibnnjobpaaCdBase
import Derived.Deep.RegionHeld3
namespace Go.Proofs.Ytdjnkibnnjobpaa.Cd
open Go.RowKit

/-- The card of no file. -/
def No (k l s d0 d1 d2 d3 d4 m : Int) : Prop := k = 0 ∧ l = 0 ∧ s = 0 ∧ (d0 = -1 ∧ d1 = -1 ∧ d2 = -1 ∧ d3 = -1 ∧ d4 = -1) ∧ m = -1
/-- A file's card. -/
def Fl (k l s d0 d1 d2 d3 d4 m : Int) : Prop := (k = 1 ∨ k = 2 ∨ k = 3) ∧ (0 ≤ l ∧ l ≤ 255) ∧ (0 ≤ s ∧ s ≤ 2688) ∧ Bk d0 d1 d2 d3 d4 m
/-- A card that may be. -/
def Rt (k l s d0 d1 d2 d3 d4 m : Int) : Prop := No k l s d0 d1 d2 d3 d4 m ∨ Fl k l s d0 d1 d2 d3 d4 m

theorem below_box {w w1 : World} {o : Obj} (hb : Below (w.alloc o).heap.size (w.alloc o) w1) : Below w.heap.size w w1 :=
  ((Below.refl _ _).alloc (Nat.le_refl _) _).trans (hb.mono (by simp))
theorem below_box0 (w : World) (o : Obj) : Below w.heap.size w (w.alloc o) := (Below.refl _ _).alloc (Nat.le_refl _) _
theorem below_next {B : Nat} {w w1 w2 : World} (h : Below B w w1) (h2 : Below w1.heap.size w1 w2) (hB : B ≤ w.heap.size) : Below B w w2 := h.trans (h2.mono (Nat.le_trans hB h.size))

theorem no_eq (k l s v d0 d1 d2 d3 d4 m : Int) (b : Bool) (hb : No k l s d0 d1 d2 d3 d4 m ↔ b = true) (w : World) :
    (Op.equalIn 10000 26 (.agg #[.int .i64 k, .int .i64 l, .int .i64 s, .int .u64 v, .int .i64 d0, .int .i64 d1, .int .i64 d2, .int .i64 d3, .int .i64 d4, .int .i64 m]) (.agg #[.int .i64 0, .int .i64 0, .int .i64 0, .int .u64 v, .int .i64 (-1), .int .i64 (-1), .int .i64 (-1), .int .i64 (-1), .int .i64 (-1), .int .i64 (-1)])).run Try.prog w = .ok b w := by
  rw [eq_card]
  congr 1
  rw [Bool.eq_iff_iff, decide_eq_true_eq, ← hb]
  unfold No
  simp

end Go.Proofs.Ytdjnkibnnjobpaa.Cd
