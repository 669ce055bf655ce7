/- More contracts of the document's own view: Card, Fresh, Block, SetBlock. -/
import Derived.Test.YtomlbifplliakaaGreatRf
namespace Go.Proofs.YtomlbifplliakaaGreat
open Go.RowKit Go.Maps Go.ChangeMaps

/-- A card and an error; a slice of words and an error. -/
def SomeCard (e : Ending) : Prop := ∃ k l s v d0 d1 d2 d3 d4 m x : Int, e = .returned (.tuple #[.agg #[.int .i64 k, .int .i64 l, .int .i64 s, .int .u64 v, .int .i64 d0, .int .i64 d1, .int .i64 d2, .int .i64 d3, .int .i64 d4, .int .i64 m], .int .i64 x])
def SomeWords (w : World) (e : Ending) : Prop := ∃ (a : Option Addr) (n c : Nat) (f : Nat → Int) (x : Int), e = .returned (.tuple #[.slice a n c, .int .i64 x]) ∧ UAt w a n f ∧ n ≤ 9223372036854775807

theorem refRead_any (b o c : Nat) (a0 a1 a2 a3 a4 a5 a6 a7 : Int) (w : World) (hs : Cd.Src w b o a0 a1 a2 a3 a4 a5 a6 a7) (h0 : 0 ≤ a0 ∧ a0 ≤ 18446744073709551615) (h2 : 0 ≤ a2 ∧ a2 ≤ 18446744073709551615) (h3 : 0 ≤ a3 ∧ a3 ≤ 18446744073709551615) :
    Calls Tryz.prog 59 #[.slice (some ⟨b, o, none⟩) 8 c] w fun e w' => ∃ k l s v d0 d1 d2 d3 d4 m x : Int, e = .returned (.tuple #[.agg #[.int .i64 k, .int .i64 l, .int .i64 s, .int .u64 v, .int .i64 d0, .int .i64 d1, .int .i64 d2, .int .i64 d3, .int .i64 d4, .int .i64 m], .int .i64 x]) ∧ Below w.heap.size w w' := by
  obtain ⟨k, l, s, d0, d1, d2, d3, d4, m, hy⟩ : ∃ k l s d0 d1 d2 d3 d4 m, Cd.Says a0 a2 a3 k l s d0 d1 d2 d3 d4 m := by
    unfold Cd.Says
    exact ⟨_, _, _, _, _, _, _, _, _, rfl, rfl, rfl, rfl, rfl, rfl, rfl, rfl, rfl⟩
  by_cases hr : Cd.Rt k l s d0 d1 d2 d3 d4 m
  · by_cases hq : (Cd.wd0 k l s = a0 ∧ Cd.wd2 d0 d1 d2 d3 = a2 ∧ Cd.wd3 d4 m = a3 ∧ 0 = a4 ∧ 0 = a5 ∧ 0 = a6 ∧ 0 = a7)
    · exact (Cd.refRead_yes b o c a0 a1 a2 a3 a4 a5 a6 a7 k l s d0 d1 d2 d3 d4 m w hs h0 h2 h3 hy hr hq).mono fun e w' ⟨h, hb⟩ => ⟨_, _, _, _, _, _, _, _, _, _, _, h, hb⟩
    · exact (Cd.refRead_other b o c a0 a1 a2 a3 a4 a5 a6 a7 k l s d0 d1 d2 d3 d4 m w hs h0 h2 h3 hy hr hq).mono fun e w' ⟨h, hb⟩ => ⟨_, _, _, _, _, _, _, _, _, _, _, h, hb⟩
  · exact (Cd.refRead_bad b o c a0 a1 a2 a3 a4 a5 a6 a7 k l s d0 d1 d2 d3 d4 m w hs h0 h2 h3 hy hr).mono fun e w' ⟨h, hb⟩ => ⟨_, _, _, _, _, _, _, _, _, _, _, h, hb⟩

theorem rcard_no (w0 : World) (R : RLay) (node : Int) (w : World) (h : RefIs w0 w R) (hn : node < 0 ∨ 24 ≤ node) :
    Calls Tryz.prog 32 #[.pointer (some ⟨R.rb, 0, none⟩), .int .i64 node] w fun e w' => SomeCard e ∧ RefIs w0 w' R ∧ Only R.blocks w w' := by
  have HH : Hid (RefIs w0 w R) := h
  clear h
  rcases hn with hn | hn
  all_goals
    try have hn' : ¬ node < 0 := by omega
    go_enter Tryz.func32, Tryz.ntmps32
    go_wp2
    refine bodyPost_ret (v := .tuple #[.agg #[.int .i64 0, .int .i64 0, .int .i64 0, .int .u64 0, .int .i64 0, .int .i64 0, .int .i64 0, .int .i64 0, .int .i64 0, .int .i64 0], .int .i64 1]) (by simp [results, Tryz.results32, go_sem]) rfl ⟨⟨_, _, _, _, _, _, _, _, _, _, _, rfl⟩, ?_⟩
    exact ⟨HH.out.later ((Below.refl _ _).alloc (Nat.le_refl _) _), (Only.refl _ _).alloc _⟩
set_option maxHeartbeats 1000000 in
theorem rcard_yes (w0 : World) (R : RLay) (j : Nat) (w : World) (h : RefIs w0 w R) (hj : j < 24) :
    Calls Tryz.prog 32 #[.pointer (some ⟨R.rb, 0, none⟩), .int .i64 (j : Int)] w fun e w' => SomeCard e ∧ RefIs w0 w' R ∧ Only R.blocks w w' := by
  have hj2 : (j : Int) < 24 := by omega
  have hj3 : ¬ (24 : Int) ≤ j := by omega
  have HLT : Hid (∀ i ∈ R.blocks, i < w.heap.size) := h.all_lt
  have HH : Hid (RefIs w0 w R) := h
  have hcap := h.now.cap
  obtain ⟨G, hG⟩ : ∃ G, w.heap.size = G := ⟨_, rfl⟩
  have HG : Hid (w.heap.size = G) := hG
  obtain ⟨X, hX, hZ, hB, hl⟩ := zero_new w
  have hX0 := h.later hB
  obtain ⟨b, cb⟩ := hX0.cb j (by omega)
  have fb := hX0.fz (2 + j)
  have hX1 := hX0.setBool j (by omega) true
  have HX1 : Hid (RefIs w0 (X.setCell ⟨R.rb, 2 + j, none⟩ (.bool true)) R) := hX1
  have c1 := hX1.c1
  have HZ : Hid (Cd.Zero X G) := by rw [hG] at hZ; exact hZ
  have HB : Hid (Below G w X) := by rw [hG] at hB; exact hB
  have HL : Hid (G < X.heap.size) := by rw [hG] at hl; exact hl
  rw [← hX] at cb fb c1
  have HX : Hid _ := hX
  clear hX hX0 hX1 hZ hB hl h hG
  go_enter Tryz.func32, Tryz.ntmps32
  go_wp2_with fail
  rw [HX.out, show 16 + 8 * j - (8 + 8 * j) = 8 by omega]
  obtain ⟨W, hW⟩ : ∃ W, X.setCell ⟨R.rb, 2 + j, none⟩ (.bool true) = W := ⟨_, rfl⟩
  have HOX : Hid (Only R.blocks w W) := by
    rw [← hW]
    exact (Only.of_below_le HB.out (by rw [HG.out]; exact Nat.le_refl _)).setCell (p := ⟨R.rb, 2 + j, none⟩) (by simp [RLay.blocks]) _
  have HSZ : Hid (G < W.heap.size) := by rw [← hW]; simp [World.setCell]; exact HL.out
  have HZW : Hid (Cd.Zero W G) := by
    rw [← hW]
    unfold Hid Cd.Zero
    rw [Below.heap_setCell _ _ _ _ (by have := HLT.out R.rb (by simp [RLay.blocks]); have := HG.out; show G ≠ R.rb; omega)]
    exact HZ.out
  rw [hW] at HX1 ⊢
  clear hW cb fb c1
  have hcell : ∀ i, i < 8 → ∃ x, W.cell? ⟨R.nb, 8 + 8 * j + i, none⟩ = some (.int .u64 x) ∧ 0 ≤ x ∧ x ≤ 18446744073709551615 := fun i hi => by
    obtain ⟨x, h1, h2⟩ := HX1.out.now.cell (8 + 8 * j + i) (by omega)
    exact ⟨x, h1, bounds_u64 h2⟩
  obtain ⟨x0, y0, b0⟩ := hcell 0 (by omega)
  obtain ⟨x1, y1, b1⟩ := hcell 1 (by omega)
  obtain ⟨x2, y2, b2⟩ := hcell 2 (by omega)
  obtain ⟨x3, y3, b3⟩ := hcell 3 (by omega)
  obtain ⟨x4, y4, b4⟩ := hcell 4 (by omega)
  obtain ⟨x5, y5, b5⟩ := hcell 5 (by omega)
  obtain ⟨x6, y6, b6⟩ := hcell 6 (by omega)
  obtain ⟨x7, y7, b7⟩ := hcell 7 (by omega)
  have hsrc : Cd.Src W R.nb (8 + 8 * j) x0 x1 x2 x3 x4 x5 x6 x7 := ⟨HX1.out.now.lt, y0, y1, y2, y3, y4, y5, y6, y7⟩
  refine (refRead_any _ _ _ _ _ _ _ _ _ _ _ _ hsrc b0 b2 b3).mono ?_
  rintro e w4 ⟨k, l, s, v, d0, d1, d2, d3, d4, m, x, rfl, hb4⟩
  have hZ4 : Cd.Zero w4 G := HZW.out.later (B := W.heap.size) HSZ.out hb4
  have HB4 : Hid (Below W.heap.size W w4) := hb4
  clear hcell y0 y1 y2 y3 y4 y5 y6 y7 b0 b1 b2 b3 b4 b5 b6 b7 hsrc hb4
  rw [← HG.out] at hZ4
  have fz := hZ4.frozen
  obtain ⟨z0, z1, z2, z3, z4, z5, z6, z7, z8, z9⟩ := hZ4.ten
  clear hZ4
  go_wp2
  refine bodyPost_ret (v := .tuple #[.agg #[.int .i64 k, .int .i64 l, .int .i64 s, .int .u64 v, .int .i64 d0, .int .i64 d1, .int .i64 d2, .int .i64 d3, .int .i64 d4, .int .i64 m], .int .i64 x]) (by simp [results, Tryz.results32, go_sem, z0, z1, z2, z3, z4, z5, z6, z7, z8, z9]) rfl ⟨⟨k, l, s, v, d0, d1, d2, d3, d4, m, x, rfl⟩, ?_⟩
  have hbG : Below w.heap.size W w4 := HB4.out.mono (by have := HSZ.out; have := HG.out; omega)
  have hfin := (((((((((hbG.setCell (p := ⟨w.heap.size, 0, none⟩) (Nat.le_refl _) (.int .i64 k)).setCell (p := ⟨w.heap.size, 1, none⟩) (Nat.le_refl _) (.int .i64 l)).setCell (p := ⟨w.heap.size, 2, none⟩) (Nat.le_refl _) (.int .i64 s)).setCell (p := ⟨w.heap.size, 3, none⟩) (Nat.le_refl _) (.int .u64 v)).setCell (p := ⟨w.heap.size, 4, none⟩) (Nat.le_refl _) (.int .i64 d0)).setCell (p := ⟨w.heap.size, 5, none⟩) (Nat.le_refl _) (.int .i64 d1)).setCell (p := ⟨w.heap.size, 6, none⟩) (Nat.le_refl _) (.int .i64 d2)).setCell (p := ⟨w.heap.size, 7, none⟩) (Nat.le_refl _) (.int .i64 d3)).setCell (p := ⟨w.heap.size, 8, none⟩) (Nat.le_refl _) (.int .i64 d4)).setCell (p := ⟨w.heap.size, 9, none⟩) (Nat.le_refl _) (.int .i64 m)
  have hw0 : w0.heap.size ≤ w.heap.size := HH.out.bel.size
  exact ⟨HX1.out.of_blocks (HX1.out.bel.trans (hfin.mono hw0)) (fun i hi _ => hfin.block i (HLT.out i hi)), HOX.out.thenBelow hfin (Nat.le_refl _)⟩
theorem rcard (w0 : World) (R : RLay) (node : Int) (w : World) (h : RefIs w0 w R) :
    Calls Tryz.prog 32 #[.pointer (some ⟨R.rb, 0, none⟩), .int .i64 node] w fun e w' => SomeCard e ∧ RefIs w0 w' R ∧ Only R.blocks w w' := by
  by_cases hn : 0 ≤ node ∧ node < 24
  · obtain ⟨j, rfl⟩ : ∃ j : Nat, node = j := ⟨node.toNat, by omega⟩
    exact rcard_yes w0 R j w h (by omega)
  · exact rcard_no w0 R node w h (by omega)

theorem rfresh (w0 : World) (R : RLay) (k : Int) (w : World) (h : RefIs w0 w R) :
    Calls Tryz.prog 40 #[.pointer (some ⟨R.rb, 0, none⟩), .int .i64 k] w fun e w' => SomeBool e ∧ w' = w := by
  have c0 := h.c0
  have c1 := h.c1
  obtain ⟨L, hL⟩ : ∃ L : Nat, 2824 = L := ⟨_, rfl⟩
  rw [hL] at c0 c1
  obtain ⟨a, n, c, f, c50, hi, hn⟩ := h.c50
  by_cases hk : 0 ≤ k ∧ k < 96
  · obtain ⟨j, rfl⟩ : ∃ j : Nat, k = j := ⟨k.toNat, by omega⟩
    have hj : (j : Int) < 96 := by omega
    have hjL : 200 + (j : Int) < (L : Int) := by omega
    obtain ⟨x, hx, _⟩ := h.base.cell (200 + j) (by omega)
    obtain ⟨y, hy, _⟩ := h.now.cell (200 + j) (by omega)
    have HH : Hid (Calls Tryz.prog 42 #[.slice a n c, .int .i64 (j : Int)] w fun e w' => SomeBool e ∧ w' = w) := has_ints a n c f j w hi hn
    clear hk hL h hi
    by_cases hx0 : x = 0
    · by_cases hy0 : y = 0
      · subst hx0 hy0
        go_enter Tryz.func40, Tryz.ntmps40
        go_wp2_with fail
        refine Calls.mono (Hid.out HH) ?_
        rintro e w' ⟨⟨b, rfl⟩, hw⟩
        obtain rfl := hw.symm
        go_wp2
        go_ret
        exact ⟨⟨_, rfl⟩, rfl⟩
      · have e1 : (y == 0) = false := by simpa using hy0
        subst hx0
        go_enter Tryz.func40, Tryz.ntmps40
        go_wp2
        go_ret
        exact ⟨⟨_, rfl⟩, rfl⟩
    · have e1 : (x == 0) = false := by simpa using hx0
      go_enter Tryz.func40, Tryz.ntmps40
      go_wp2
      go_ret
      exact ⟨⟨_, rfl⟩, rfl⟩
  · by_cases h0 : 0 ≤ k
    · have h1 : ¬ k < 96 := by omega
      clear hk hL h
      go_enter Tryz.func40, Tryz.ntmps40
      go_wp2
      go_ret
      exact ⟨⟨_, rfl⟩, rfl⟩
    · clear hk hL h
      go_enter Tryz.func40, Tryz.ntmps40
      go_wp2
      go_ret
      exact ⟨⟨_, rfl⟩, rfl⟩

end Go.Proofs.YtomlbifplliakaaGreat
