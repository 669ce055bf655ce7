/- More contracts of the document's own view: Set, Block, SetBlock, Reset, New; and of Same. -/
import Derived.Test.YtomlbifplliakaaGreatRg
namespace Go.Proofs.YtomlbifplliakaaGreat
open Go.RowKit Go.Maps Go.ChangeMaps

theorem RefIs.copied {w0 w w' : World} {R : RLay} (h : RefIs w0 w R) (h1 : RowO w' R.nb R.nc) (ho : Only [R.nb] w w') : RefIs w0 w' R := by
  have hr := h.rb_row
  obtain ⟨cs, h2, h3⟩ := h.obj
  refine ⟨h.only ho (fun j hj => by simp only [List.mem_singleton] at hj; subst hj; simp [RLay.blocks]), ⟨cs, ?_, h3⟩, h.base.of_block (ho.block _ h.base.lt (by simp only [List.mem_singleton]; exact h.apart)), h1, h.apart, h.low⟩
  rw [ho.block _ h.rlt (by simp only [List.mem_singleton]; exact hr.2)]
  exact h2

set_option maxHeartbeats 1000000 in
theorem rset_no (w0 : World) (R : RLay) (node : Int) (k l s v d0 d1 d2 d3 d4 m : Int) (w : World) (h : RefIs w0 w R) (hr : ¬ Cd.Rt k l s d0 d1 d2 d3 d4 m) :
    Calls Tryz.prog 34 #[.pointer (some ⟨R.rb, 0, none⟩), .int .i64 node, .agg #[.int .i64 k, .int .i64 l, .int .i64 s, .int .u64 v, .int .i64 d0, .int .i64 d1, .int .i64 d2, .int .i64 d3, .int .i64 d4, .int .i64 m]] w fun e w' => SomeInt .i64 e ∧ RefIs w0 w' R ∧ Only R.blocks w w' := by
  have HW : Hid (∀ w, Calls Tryz.prog 62 #[.agg #[.int .i64 k, .int .i64 l, .int .i64 s, .int .u64 v, .int .i64 d0, .int .i64 d1, .int .i64 d2, .int .i64 d3, .int .i64 d4, .int .i64 m]] w fun e w' => e = .returned (.tuple #[.slice none 0 0, .int .i64 1]) ∧ Below w.heap.size w w') := fun w => Cd.refWrite_no k l s v d0 d1 d2 d3 d4 m w hr
  have HH : Hid (RefIs w0 w R) := h
  clear hr h
  by_cases h0 : node < 0
  all_goals by_cases h1 : 24 ≤ node
  all_goals
    go_enter Tryz.func34, Tryz.ntmps34
    go_wp2_with fail
    obtain ⟨Y, hY, YS, YE, YC⟩ := Cd.new_card w k l s v d0 d1 d2 d3 d4 m
    rw [hY]
    clear hY
    have hB : Below w.heap.size w Y := YE.out Y (Below.refl _ _)
    obtain ⟨c0, c1, c2, c3, c4, c5, c6, c7, c8, c9⟩ := YC.out Y (Below.refl _ _)
    refine Calls.mono (HW.out _) ?_
    rintro e w2 ⟨rfl, hb⟩
    have HB2 : Hid (Below w.heap.size w w2) := hB.trans (hb.mono hB.size)
    clear hB hb c0 c1 c2 c3 c4 c5 c6 c7 c8 c9
    go_wp2
    go_ret
    exact ⟨⟨_, rfl⟩, HH.out.later HB2.out, Only.of_below HB2.out⟩
set_option maxHeartbeats 1000000 in
theorem rset_node (w0 : World) (R : RLay) (node : Int) (k l s v d0 d1 d2 d3 d4 m : Int) (w : World) (h : RefIs w0 w R) (hr : Cd.Rt k l s d0 d1 d2 d3 d4 m) (hn : node < 0 ∨ 24 ≤ node) :
    Calls Tryz.prog 34 #[.pointer (some ⟨R.rb, 0, none⟩), .int .i64 node, .agg #[.int .i64 k, .int .i64 l, .int .i64 s, .int .u64 v, .int .i64 d0, .int .i64 d1, .int .i64 d2, .int .i64 d3, .int .i64 d4, .int .i64 m]] w fun e w' => SomeInt .i64 e ∧ RefIs w0 w' R ∧ Only R.blocks w w' := by
  have HW : Hid (∀ w, Calls Tryz.prog 62 #[.agg #[.int .i64 k, .int .i64 l, .int .i64 s, .int .u64 v, .int .i64 d0, .int .i64 d1, .int .i64 d2, .int .i64 d3, .int .i64 d4, .int .i64 m]] w fun e w' => Cd.Wrote w w' e k l s v d0 d1 d2 d3 d4 m) := fun w => Cd.refWrite_yes k l s v d0 d1 d2 d3 d4 m w hr
  have HH : Hid (RefIs w0 w R) := h
  clear hr h
  rcases hn with hn | hn
  all_goals
    try have hn' : ¬ node < 0 := by omega
    go_enter Tryz.func34, Tryz.ntmps34
    go_wp2_with fail
    obtain ⟨Y, hY, YS, YE, YC⟩ := Cd.new_card w k l s v d0 d1 d2 d3 d4 m
    rw [hY]
    clear hY
    have hB : Below w.heap.size w Y := YE.out Y (Below.refl _ _)
    obtain ⟨c0, c1, c2, c3, c4, c5, c6, c7, c8, c9⟩ := YC.out Y (Below.refl _ _)
    refine Calls.mono (HW.out _) ?_
    rintro e w2 ⟨g, rfl, hg1, hg2, hrow, hb⟩
    have HB2 : Hid (Below w.heap.size w w2) := hB.trans (hb.mono hB.size)
    clear hB hb c0 c1 c2 c3 c4 c5 c6 c7 c8 c9 hrow hg1 hg2
    go_wp2
    go_ret
    exact ⟨⟨_, rfl⟩, HH.out.later HB2.out, Only.of_below HB2.out⟩
set_option maxHeartbeats 1000000 in
set_option maxRecDepth 100000 in
theorem rset_yes (w0 : World) (R : RLay) (j : Nat) (k l s v d0 d1 d2 d3 d4 m : Int) (w : World) (h : RefIs w0 w R) (hr : Cd.Rt k l s d0 d1 d2 d3 d4 m) (hj : j < 24) (hwf : ∀ i, i < 8 → (Lit.int .u64 (cardRow k l s v d0 d1 d2 d3 d4 m i)).wf = true) :
    Calls Tryz.prog 34 #[.pointer (some ⟨R.rb, 0, none⟩), .int .i64 (j : Int), .agg #[.int .i64 k, .int .i64 l, .int .i64 s, .int .u64 v, .int .i64 d0, .int .i64 d1, .int .i64 d2, .int .i64 d3, .int .i64 d4, .int .i64 m]] w fun e w' => SomeInt .i64 e ∧ RefIs w0 w' R ∧ Only R.blocks w w' := by
  have HW : Hid (∀ w, Calls Tryz.prog 62 #[.agg #[.int .i64 k, .int .i64 l, .int .i64 s, .int .u64 v, .int .i64 d0, .int .i64 d1, .int .i64 d2, .int .i64 d3, .int .i64 d4, .int .i64 m]] w fun e w' => Cd.Wrote w w' e k l s v d0 d1 d2 d3 d4 m) := fun w => Cd.refWrite_yes k l s v d0 d1 d2 d3 d4 m w hr
  have HH : Hid (RefIs w0 w R) := h
  have HWF : Hid (∀ i, i < 8 → (Lit.int .u64 (cardRow k l s v d0 d1 d2 d3 d4 m i)).wf = true) := hwf
  have hj2 : (j : Int) < 24 := by omega
  have hcap := h.now.cap
  clear hr h hwf
  go_enter Tryz.func34, Tryz.ntmps34
  go_wp2_with fail
  obtain ⟨Y, hY, YS, YE, YC⟩ := Cd.new_card w k l s v d0 d1 d2 d3 d4 m
  rw [hY]
  clear hY
  have hB : Below w.heap.size w Y := YE.out Y (Below.refl _ _)
  obtain ⟨c0, c1, c2, c3, c4, c5, c6, c7, c8, c9⟩ := YC.out Y (Below.refl _ _)
  refine Calls.mono (HW.out _) ?_
  rintro e w2 ⟨g, rfl, hg1, hg2, hrow, hb⟩
  have HB2 : Hid (Below w.heap.size w w2) := hB.trans (hb.mono hB.size)
  have hgw : w.heap.size ≤ g := Nat.le_trans hB.size hg1
  have hwords := wordsRow8 hrow
  have h2 := HH.out.later HB2.out
  obtain ⟨b1, q1⟩ := h2.cb j (by omega)
  have f1 := h2.fz (2 + j)
  have h3 := h2.setBool j (by omega) true
  obtain ⟨b2, q2⟩ := h3.cb (24 + j) (by omega)
  have f2 := h3.fz (2 + (24 + j))
  have h4 := h3.setBool (24 + j) (by omega) true
  have q3 := h4.c1
  have e26 : 2 + (24 + j) = 26 + j := by omega
  rw [e26] at q2 f2 h4 q3
  have hgr : ∀ i ∈ R.blocks, g ≠ i := fun i hi e => by have := HH.out.all_lt i hi; omega
  have hrb : R.rb ∈ R.blocks := by simp [RLay.blocks]
  obtain ⟨w5, hrun, r5, o5⟩ := h4.now.copied (8 + 8 * j) 8 (cardRow k l s v d0 d1 d2 d3 d4 m) (by omega) HWF.out (2824 - (8 + 8 * j)) (R.nc - (8 + 8 * j)) g 0 8 (by omega) (fun i hi => by
    rw [World.cell?_of_block (w := w2) (by rw [Below.heap_setCell _ _ _ _ (show (⟨g, 0 + i, none⟩ : Addr).block ≠ R.rb from hgr _ hrb), Below.heap_setCell _ _ _ _ (show (⟨g, 0 + i, none⟩ : Addr).block ≠ R.rb from hgr _ hrb)])]
    exact hwords i hi)
  have h5 := h4.copied r5 o5
  have HO : Hid (RefIs w0 w5 R ∧ Only R.blocks w w5) := ⟨h5, (((Only.of_below HB2.out).setCell (p := ⟨R.rb, 2 + j, none⟩) (by simp [RLay.blocks]) _).setCell (p := ⟨R.rb, 26 + j, none⟩) (by simp [RLay.blocks]) _).trans (o5.mono (by simp [RLay.blocks]))⟩
  clear hB hb c0 c1 c2 c3 c4 c5 c6 c7 c8 c9 hrow hg1 hg2 h2 h3 h4 h5 r5 o5 hwords hgr hrb e26
  go_wp2
  go_ret
  exact ⟨⟨_, rfl⟩, HO.out.1, HO.out.2⟩

end Go.Proofs.YtomlbifplliakaaGreat
