/- Contracts of Write and Read (the program's): a card's words in a new row, and the card of any words. -/
import Derived.Test.YtomlbifplliakaaGreatCdLay
import Derived.Test.YtomlbifplliakaaGreatCdUnlay
import Derived.Laws.ResultCell
namespace Go.Proofs.YtomlbifplliakaaGreat.Cd
open Go.RowKit

/-- The block g holds eight words. -/
def Row8 (w : World) (g : Nat) (a0 a1 a2 a3 a4 a5 a6 a7 : Int) : Prop := w.cell? ⟨g, 0, none⟩ = some (.int .u64 a0) ∧ w.cell? ⟨g, 1, none⟩ = some (.int .u64 a1) ∧ w.cell? ⟨g, 2, none⟩ = some (.int .u64 a2) ∧ w.cell? ⟨g, 3, none⟩ = some (.int .u64 a3) ∧ w.cell? ⟨g, 4, none⟩ = some (.int .u64 a4) ∧ w.cell? ⟨g, 5, none⟩ = some (.int .u64 a5) ∧ w.cell? ⟨g, 6, none⟩ = some (.int .u64 a6) ∧ w.cell? ⟨g, 7, none⟩ = some (.int .u64 a7)
theorem Row8.later {w w' : World} {g : Nat} {a0 a1 a2 a3 a4 a5 a6 a7 : Int} (h : Row8 w g a0 a1 a2 a3 a4 a5 a6 a7) {B : Nat} (hg : g < B) (hb : Below B w w') : Row8 w' g a0 a1 a2 a3 a4 a5 a6 a7 := by
  unfold Row8 at h ⊢
  have e : ∀ o, w'.cell? ⟨g, o, none⟩ = w.cell? ⟨g, o, none⟩ := fun o => hb.cell (p := ⟨g, o, none⟩) hg
  simp only [e]
  exact h
theorem row8_alloc (w : World) (a0 a1 a2 a3 a4 a5 a6 a7 : Int) : Row8 (w.alloc (.cells #[.int .u64 a0, .int .u64 a1, .int .u64 a2, .int .u64 a3, .int .u64 a4, .int .u64 a5, .int .u64 a6, .int .u64 a7] 100)) w.heap.size a0 a1 a2 a3 a4 a5 a6 a7 := by
  unfold Row8
  simp [go_sem]

/-- A slice of the eight words of a card, made anew. -/
def Wrote (w w' : World) (e : Ending) (k l s v d0 d1 d2 d3 d4 m : Int) : Prop :=
  ∃ g, e = .returned (.tuple #[.slice (some ⟨g, 0, none⟩) 8 8, .int .i64 0]) ∧ w.heap.size ≤ g ∧ g < w'.heap.size ∧ Row8 w' g (wd0 k l s) v (wd2 d0 d1 d2 d3) (wd3 d4 m) 0 0 0 0 ∧ Below w.heap.size w w'

set_option maxHeartbeats 1000000 in
theorem write_yes (k l s v d0 d1 d2 d3 d4 m : Int) (w : World) (h : Rt k l s d0 d1 d2 d3 d4 m) :
    Calls Tryz.prog 60 #[.agg #[.int .i64 k, .int .i64 l, .int .i64 s, .int .u64 v, .int .i64 d0, .int .i64 d1, .int .i64 d2, .int .i64 d3, .int .i64 d4, .int .i64 m]] w fun e w' => Wrote w w' e k l s v d0 d1 d2 d3 d4 m := by
  have H : Hid (Rt k l s d0 d1 d2 d3 d4 m) := h
  have HL : Hid (∀ w, Calls Tryz.prog 74 #[.agg #[.int .i64 k, .int .i64 l, .int .i64 s, .int .u64 v, .int .i64 d0, .int .i64 d1, .int .i64 d2, .int .i64 d3, .int .i64 d4, .int .i64 m]] w fun e w' => e = .returned (.agg #[.int .u64 (wd0 k l s), .int .u64 v, .int .u64 (wd2 d0 d1 d2 d3), .int .u64 (wd3 d4 m), .int .u64 0, .int .u64 0, .int .u64 0, .int .u64 0]) ∧ Below w.heap.size w w') := fun w => lay_any k l s v d0 d1 d2 d3 d4 m w h
  clear h
  obtain ⟨x0, hx0⟩ : ∃ x, wd0 k l s = x := ⟨_, rfl⟩
  obtain ⟨x2, hx2⟩ : ∃ x, wd2 d0 d1 d2 d3 = x := ⟨_, rfl⟩
  obtain ⟨x3, hx3⟩ : ∃ x, wd3 d4 m = x := ⟨_, rfl⟩
  unfold Wrote
  rw [hx0, hx2, hx3] at HL ⊢
  clear hx0 hx2 hx3
  go_enter Tryz.func60, Tryz.ntmps60
  go_wp2_with fail
  obtain ⟨W, hW, HS, HE, HC⟩ := new_card w k l s v d0 d1 d2 d3 d4 m
  rw [hW]
  clear hW
  refine (right_yes k l s v d0 d1 d2 d3 d4 m _ H.out).mono ?_
  rintro e w1 ⟨rfl, bel⟩
  obtain ⟨c0, c1, c2, c3, c4, c5, c6, c7, c8, c9⟩ := HC.out w1 bel
  go_wp2_with fail
  refine Calls.mono (HL.out _) ?_
  rintro e w2 ⟨rfl, hb2⟩
  have B2 : Below w.heap.size w w2 := HE.out _ (below_next bel hb2 (Nat.le_refl _))
  clear c0 c1 c2 c3 c4 c5 c6 c7 c8 c9
  go_wp2
  go_ret2
  refine ⟨w2.heap.size, rfl, B2.size, by simp, row8_alloc w2 _ _ _ _ _ _ _ _, B2.alloc B2.size _⟩
theorem write_no (k l s v d0 d1 d2 d3 d4 m : Int) (w : World) (h : ¬ Rt k l s d0 d1 d2 d3 d4 m) :
    Calls Tryz.prog 60 #[.agg #[.int .i64 k, .int .i64 l, .int .i64 s, .int .u64 v, .int .i64 d0, .int .i64 d1, .int .i64 d2, .int .i64 d3, .int .i64 d4, .int .i64 m]] w fun e w' => e = .returned (.tuple #[.slice none 0 0, .int .i64 1]) ∧ Below w.heap.size w w' := by
  have H : Hid (¬ Rt k l s d0 d1 d2 d3 d4 m) := h
  clear h
  go_enter Tryz.func60, Tryz.ntmps60
  go_wp2_with fail
  refine (right_no k l s v d0 d1 d2 d3 d4 m _ H.out).mono ?_
  rintro e w1 ⟨rfl, bel⟩
  have B := below_box bel
  clear bel
  go_wp2
  go_ret2
  exact ⟨rfl, B⟩

theorem read_len (a : Option Addr) (n c : Nat) (w : World) (h : ¬ n = 8) :
    Calls Tryz.prog 57 #[.slice a n c] w fun e w' => e = .returned (.tuple #[.agg #[.int .i64 0, .int .i64 0, .int .i64 0, .int .u64 0, .int .i64 0, .int .i64 0, .int .i64 0, .int .i64 0, .int .i64 0, .int .i64 0], .int .i64 15]) ∧ Below w.heap.size w w' := by
  have h' : ((n : Int) != 8) = true := by rw [bne_iff_ne]; omega
  go_enter Tryz.func57, Tryz.ntmps57
  go_wp2
  refine bodyPost_ret (v := .tuple #[.agg #[_, _, _, _, _, _, _, _, _, _], _]) (by simp [results, Tryz.results57, go_sem]) rfl ⟨rfl, ?_⟩
  exact below_box0 _ _
end Go.Proofs.YtomlbifplliakaaGreat.Cd
