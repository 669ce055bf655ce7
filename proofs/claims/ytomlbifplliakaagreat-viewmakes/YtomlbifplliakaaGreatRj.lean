/- Contracts of the document's own Reset and New. -/
import Derived.Test.YtomlbifplliakaaGreatRi
import Derived.Deep.MidRow
namespace Go.Proofs.YtomlbifplliakaaGreat
open Go.RowKit Go.Maps Go.ChangeMaps

theorem RefIs.setBools {w0 : World} {R : RLay} : ∀ (vs : List Value) (o : Nat) (w : World), RefIs w0 w R → (∀ v ∈ vs, ∃ b, v = .bool b) → o + vs.length ≤ 48 → RefIs w0 (w.setCells R.rb (2 + o) vs) R ∧ Only R.blocks w (w.setCells R.rb (2 + o) vs)
  | [], _, w, h, _, _ => ⟨h, Only.refl _ _⟩
  | v :: vs, o, w, h, hv, hl => by
    obtain ⟨b, rfl⟩ := hv v (by simp)
    simp only [List.length_cons] at hl
    have h1 := h.setBool o (by omega) b
    obtain ⟨h2, h3⟩ := RefIs.setBools vs (o + 1) _ h1 (fun u hu => hv u (by simp [hu])) (by omega)
    exact ⟨h2, ((Only.refl _ _).setCell (p := ⟨R.rb, 2 + o, none⟩) (by simp [RLay.blocks]) _).trans h3⟩
theorem RefIs.thereB {w0 w : World} {R : RLay} (h : RefIs w0 w R) (o n : Nat) (hn : o + n ≤ 48) : w.there R.rb (2 + o) n := fun j hj => by
  obtain ⟨b, hb⟩ := h.cb (o + j) (by omega)
  rw [show 2 + o + j = 2 + (o + j) by omega]
  exact ⟨by rw [hb]; rfl, h.fz _⟩
/-- The newer row is another one. -/
theorem RefIs.setRow {w0 w : World} {R : RLay} (h : RefIs w0 w R) (g c : Nat) (hr : RowO w g c) (hg : w0.heap.size ≤ g) (hne : g ≠ R.bb) (hne2 : g ≠ R.rb) : RefIs w0 (w.setCell ⟨R.rb, 1, none⟩ (.slice (some ⟨g, 0, none⟩) 2824 c)) ⟨R.rb, R.bb, R.bc, g, c⟩ := by
  obtain ⟨cs, h1, h2, h3, h4, ⟨a5, n5, c5, f5, h5, g5⟩, ⟨a6, n6, c6, f6, h6, g6⟩⟩ := h.obj
  have hrb := h.rb_row
  have hs : 51 < cs.size := (Array.getElem?_eq_some_iff.1 h6).1
  refine ⟨h.bel.setCell (h.low _ (by simp [RLay.blocks])) _, ⟨_, heap_setCell_same w R.rb 1 cs _ _ h1, ?_, ?_, fun j hj => ?_, ⟨a5, n5, c5, f5, ?_, g5⟩, ⟨a6, n6, c6, f6, ?_, g6⟩⟩, h.base.of_block (Below.heap_setCell _ _ _ _ hrb.1.symm), hr.of_block (Below.heap_setCell _ _ _ _ hne2), hne.symm, ?_⟩
  · rw [Array.getElem?_setIfInBounds_ne (by omega)]; exact h2
  · simp [show 1 < cs.size by omega]
  · rw [Array.getElem?_setIfInBounds_ne (by omega)]; exact h4 j hj
  · rw [Array.getElem?_setIfInBounds_ne (by omega)]; exact h5
  · rw [Array.getElem?_setIfInBounds_ne (by omega)]; exact h6
  · intro j hj
    simp only [RLay.blocks, List.mem_cons, List.not_mem_nil, or_false] at hj
    rcases hj with rfl | rfl | rfl
    · exact h.low _ (by simp [RLay.blocks])
    · exact h.low _ (by simp [RLay.blocks])
    · exact hg
/-- What changes only these blocks and new ones. -/
theorem Only.thenNew {X Y : List Nat} {a b c : World} (h : Only X a b) (k : Only Y b c) (hY : ∀ j ∈ Y, j ∈ X ∨ a.heap.size ≤ j) : Only X a c :=
  ⟨k.os.trans h.os, k.tape.trans h.tape, k.output.trans h.output, Nat.le_trans h.size k.size, fun i hi hn => (k.block i (Nat.lt_of_lt_of_le hi h.size) (fun hm => by
    rcases hY i hm with e | e
    · exact hn e
    · omega)).trans (h.block i hi hn)⟩
theorem news_of {w : World} {b : Nat} {f : Nat → Int} (hf : ∀ i, i < 2824 → w.cell? ⟨b, i, none⟩ = some (.int .u64 (f i)) ∧ (Lit.int .u64 (f i)).wf = true) (i : Nat) (u : Value) (hu : (rowI f 2824)[i]? = some u) : w.cell? ((⟨b, 0, none⟩ : Addr).add i) = some u := by
  by_cases hi : i < 2824
  · rw [rowI_at _ _ _ hi] at hu
    cases hu
    rw [add_none, Nat.zero_add]
    exact (hf i hi).1
  · rw [rowI_out _ _ _ hi] at hu
    cases hu

theorem bools24 : ∀ v ∈ (#[.bool false, .bool false, .bool false, .bool false, .bool false, .bool false, .bool false, .bool false, .bool false, .bool false, .bool false, .bool false, .bool false, .bool false, .bool false, .bool false, .bool false, .bool false, .bool false, .bool false, .bool false, .bool false, .bool false, .bool false] : Array Value).toList, ∃ b, v = .bool b := by
  intro v hv
  simp at hv
  exact ⟨false, hv⟩
theorem one24 : (#[.bool false, .bool false, .bool false, .bool false, .bool false, .bool false, .bool false, .bool false, .bool false, .bool false, .bool false, .bool false, .bool false, .bool false, .bool false, .bool false, .bool false, .bool false, .bool false, .bool false, .bool false, .bool false, .bool false, .bool false] : Array Value).all (·.oneCell') = true := by kernel_rfl
theorem infoB : (Tryz.prog.info? 63).map (·.size) = some 24 := by kernel_rfl

set_option maxHeartbeats 2000000 in
set_option maxRecDepth 100000 in
theorem rreset (w0 : World) (R : RLay) (w : World) (h : RefIs w0 w R) :
    Calls Tryz.prog 45 #[.pointer (some ⟨R.rb, 0, none⟩)] w fun e w' => ∃ R' : RLay, e = .returned (.tuple #[]) ∧ RefIs w0 w' R' ∧ R'.rb = R.rb ∧ R'.bb = R.bb ∧ (R'.nb = R.nb ∨ w.heap.size ≤ R'.nb) ∧ Only R.blocks w w' := by
  obtain ⟨i0, hi, hz0, hz1, hz2⟩ := info_parts Tryz.info22
  have HH : Hid (RefIs w0 w R) := h
  have c0 := h.c0
  obtain ⟨f, hf⟩ := h.base.words
  obtain ⟨L, hL⟩ : ∃ L : Nat, 2824 = L := ⟨_, rfl⟩
  have HL : Hid (2824 = L) := hL
  have hnews := news_of hf
  have hlen : (rowI f 2824).length = L * 1 := by rw [rowI_len]; omega
  have HF : Hid (∀ i, i < 2824 → (Lit.int .u64 (f i)).wf = true) := fun i hi => (hf i hi).2
  have hL2 : L ≤ 100000 := by omega
  obtain ⟨rw_, hrw⟩ : ∃ l, rowI f 2824 = l := ⟨_, rfl⟩
  have HRW : Hid (rowI f 2824 = rw_) := hrw
  have hone : ∀ v ∈ rw_, v.oneCell' = true := by rw [← hrw]; exact rowI_one _ _
  rw [hrw] at hnews hlen
  rw [hL] at c0
  clear hf h hrw hL
  have hnil : w.ownsRow w.heap.size 35 1 (.slice none 0 0) 0 [] := World.ownsRow_nil _ _ _ _
  go_enter Tryz.func45, Tryz.ntmps45
  repeat (first
    | (at_builtin; refine wpList_append_own _ rfl _ _ 25 rfl w.heap.size 35 i0 (.int .u64 0) 1 8 Tryz.underlying25 hi hz0 hz1 hz2 rfl (by decide) _ 0 [] rfl hnil ⟨R.bb, 0, none⟩ L R.bc rw_ rfl hlen hnews hone (by unfold maxLen; omega) (by omega) (Nat.le_refl _) ?_
       intro v' w1 hrow hg hnil'
       have hb : Below w.heap.size w w1 := (Below.refl _ _).grown hg (Nat.le_refl _) (fun k hk => by cases hk)
       obtain ⟨va, vc, rfl, hva⟩ := ownsRow_form0 hrow
       obtain ⟨g, rfl, hgw⟩ := hva.resolve_left (by have := HL.out; omega)
       have hr0 : RowO w1 g vc := by
         refine RowO.of_own (B := w.heap.size) (f := f) ?_ HF.out
         rw [HRW.out]
         have := HL.out
         subst this
         exact hrow
       have h1 := HH.out.later hb
       have hbbl : R.bb < w.heap.size := HH.out.base.lt
       have hrbl : R.rb < w.heap.size := HH.out.rlt
       have h2 := h1.setRow g vc hr0 (Nat.le_trans HH.out.bel.size hgw) (by omega) (by omega)
       have ho2 : Only R.blocks w (w1.setCell ⟨R.rb, 1, none⟩ (.slice (some ⟨g, 0, none⟩) 2824 vc)) := (Only.of_below hb).setCell (p := ⟨R.rb, 1, none⟩) (by simp [RLay.blocks]) _
       rw [HL.out] at h2 ho2
       have HO2 : Hid (Only R.blocks w (w1.setCell ⟨R.rb, 1, none⟩ (.slice (some ⟨g, 0, none⟩) L vc))) := ho2
       have HR2 : Hid (RefIs w0 (w1.setCell ⟨R.rb, 1, none⟩ (.slice (some ⟨g, 0, none⟩) L vc)) ⟨R.rb, R.bb, R.bc, g, vc⟩) := h2
       have HGW : Hid (w.heap.size ≤ g) := hgw
       have d1 := h1.c1
       have e1 := h1.fz 1
       clear hrow hg hnil' hb hr0 h1 h2 ho2 hbbl hrbl hgw hva hnews hone hlen)
    | (refine wpList_store_mid rfl 63 _ _ rfl R.rb 2 #[.bool false, .bool false, .bool false, .bool false, .bool false, .bool false, .bool false, .bool false, .bool false, .bool false, .bool false, .bool false, .bool false, .bool false, .bool false, .bool false, .bool false, .bool false, .bool false, .bool false, .bool false, .bool false, .bool false, .bool false] rfl rfl (HR2.out.thereB 0 24 (by omega)) infoB one24 ?_
       obtain ⟨h3, h4⟩ := HR2.out.setBools (#[.bool false, .bool false, .bool false, .bool false, .bool false, .bool false, .bool false, .bool false, .bool false, .bool false, .bool false, .bool false, .bool false, .bool false, .bool false, .bool false, .bool false, .bool false, .bool false, .bool false, .bool false, .bool false, .bool false, .bool false] : Array Value).toList 0 _ bools24 (by decide)
       obtain ⟨w3, hw3⟩ : ∃ x, World.setCells (w1.setCell ⟨R.rb, 1, none⟩ (.slice (some ⟨g, 0, none⟩) L vc)) R.rb 2 (#[.bool false, .bool false, .bool false, .bool false, .bool false, .bool false, .bool false, .bool false, .bool false, .bool false, .bool false, .bool false, .bool false, .bool false, .bool false, .bool false, .bool false, .bool false, .bool false, .bool false, .bool false, .bool false, .bool false, .bool false] : Array Value).toList = x := ⟨_, rfl⟩
       have HR3 : Hid (RefIs w0 w3 ⟨R.rb, R.bb, R.bc, g, vc⟩) := by rw [← hw3]; exact h3
       have HO3 : Hid (Only [R.rb, R.bb, g] (w1.setCell ⟨R.rb, 1, none⟩ (.slice (some ⟨g, 0, none⟩) L vc)) w3) := by rw [← hw3]; exact h4
       rw [hw3]
       clear h3 h4 hw3)
    | (refine wpList_store_mid rfl 63 _ _ rfl R.rb 26 #[.bool false, .bool false, .bool false, .bool false, .bool false, .bool false, .bool false, .bool false, .bool false, .bool false, .bool false, .bool false, .bool false, .bool false, .bool false, .bool false, .bool false, .bool false, .bool false, .bool false, .bool false, .bool false, .bool false, .bool false] rfl rfl (HR3.out.thereB 24 24 (by omega)) infoB one24 ?_
       obtain ⟨h3, h4⟩ := HR3.out.setBools (#[.bool false, .bool false, .bool false, .bool false, .bool false, .bool false, .bool false, .bool false, .bool false, .bool false, .bool false, .bool false, .bool false, .bool false, .bool false, .bool false, .bool false, .bool false, .bool false, .bool false, .bool false, .bool false, .bool false, .bool false] : Array Value).toList 24 _ bools24 (by decide)
       obtain ⟨w4, hw4⟩ : ∃ x, World.setCells w3 R.rb 26 (#[.bool false, .bool false, .bool false, .bool false, .bool false, .bool false, .bool false, .bool false, .bool false, .bool false, .bool false, .bool false, .bool false, .bool false, .bool false, .bool false, .bool false, .bool false, .bool false, .bool false, .bool false, .bool false, .bool false, .bool false] : Array Value).toList = x := ⟨_, rfl⟩
       have HR4 : Hid (RefIs w0 w4 ⟨R.rb, R.bb, R.bc, g, vc⟩) := by rw [← hw4]; exact h3
       have HO4 : Hid (Only [R.rb, R.bb, g] w3 w4) := by rw [← hw4]; exact h4
       rw [hw4]
       clear h3 h4 hw4)
    | go_step)
  go_end0
  refine ⟨⟨R.rb, R.bb, R.bc, g, vc⟩, rfl, HR4.out, rfl, rfl, .inr HGW.out, ?_⟩
  have hg : ∀ j, j ∈ [R.rb, R.bb, g] → j ∈ R.blocks ∨ w.heap.size ≤ j := fun j hj => by
    simp only [List.mem_cons, List.not_mem_nil, or_false] at hj
    rcases hj with rfl | rfl | rfl
    · exact .inl (by simp [RLay.blocks])
    · exact .inl (by simp [RLay.blocks])
    · exact .inr HGW.out
  exact (HO2.out.thenNew HO3.out hg).thenNew HO4.out hg

theorem cells52 (a b : Value) : (#[a, b, .bool false, .bool false, .bool false, .bool false, .bool false, .bool false, .bool false, .bool false, .bool false, .bool false, .bool false, .bool false, .bool false, .bool false, .bool false, .bool false, .bool false, .bool false, .bool false, .bool false, .bool false, .bool false, .bool false, .bool false, .bool false, .bool false, .bool false, .bool false, .bool false, .bool false, .bool false, .bool false, .bool false, .bool false, .bool false, .bool false, .bool false, .bool false, .bool false, .bool false, .bool false, .bool false, .bool false, .bool false, .bool false, .bool false, .bool false, .bool false, .slice none 0 0, .slice none 0 0] : Array Value) = ((a :: b :: List.replicate 48 (Value.bool false)) ++ [Value.slice none 0 0, Value.slice none 0 0]).toArray := rfl
theorem new_is (w0 w : World) (bb bc nb nc : Nat) (hw : Below w0.heap.size w0 w) (h1 : RowO w bb bc) (h2 : RowO w nb nc) (hne : bb ≠ nb) (hb : w0.heap.size ≤ bb) (hn : w0.heap.size ≤ nb) :
    RefIs w0 (w.alloc (.cells #[.slice (some ⟨bb, 0, none⟩) 2824 bc, .slice (some ⟨nb, 0, none⟩) 2824 nc, .bool false, .bool false, .bool false, .bool false, .bool false, .bool false, .bool false, .bool false, .bool false, .bool false, .bool false, .bool false, .bool false, .bool false, .bool false, .bool false, .bool false, .bool false, .bool false, .bool false, .bool false, .bool false, .bool false, .bool false, .bool false, .bool false, .bool false, .bool false, .bool false, .bool false, .bool false, .bool false, .bool false, .bool false, .bool false, .bool false, .bool false, .bool false, .bool false, .bool false, .bool false, .bool false, .bool false, .bool false, .bool false, .bool false, .bool false, .bool false, .slice none 0 0, .slice none 0 0] 65)) ⟨w.heap.size, bb, bc, nb, nc⟩ := by
  refine ⟨hw.alloc hw.size _, ⟨_, heap_alloc_new _ _, rfl, rfl, fun i hi => ⟨false, ?_⟩, ⟨none, 0, 0, fun _ => 0, rfl, .inl rfl, by omega⟩, ⟨none, 0, 0, fun _ => 0, rfl, .inl rfl, by omega⟩⟩, h1.of_block (Below.heap_alloc _ _ _ h1.lt), h2.of_block (Below.heap_alloc _ _ _ h2.lt), hne, ?_⟩
  · rw [cells52, List.getElem?_toArray, List.getElem?_append_left (by simp; omega)]
    rw [show 2 + i = i + 1 + 1 by omega, List.getElem?_cons_succ, List.getElem?_cons_succ, List.getElem?_replicate, if_pos hi]
  · intro j hj
    simp only [RLay.blocks, List.mem_cons, List.not_mem_nil, or_false] at hj
    rcases hj with rfl | rfl | rfl
    · exact hw.size
    · exact hb
    · exact hn

set_option maxHeartbeats 2000000 in
set_option maxRecDepth 100000 in
theorem rnew (w0 w : World) (G : Nat) (f : Nat → Int) (hw : Below w0.heap.size w0 w) (hr : RowIs w G f) (hf : ∀ i, i < 2824 → 0 ≤ f i ∧ f i ≤ 18446744073709551615) :
    Calls Tryz.prog 9 #[.slice (some ⟨G, 0, none⟩) 2824 2824] w fun e w' => ∃ R : RLay, e = .returned (.pointer (some ⟨R.rb, 0, none⟩)) ∧ RefIs w0 w' R ∧ (∀ j ∈ R.blocks, w.heap.size ≤ j) ∧ Below w.heap.size w w' := by
  obtain ⟨i0, hi, hz0, hz1, hz2⟩ := info_parts Tryz.info22
  obtain ⟨L, hL⟩ : ∃ L : Nat, 2824 = L := ⟨_, rfl⟩
  have HL : Hid (2824 = L) := hL
  have HF : Hid (∀ i, i < 2824 → (Lit.int .u64 (f i)).wf = true) := fun i hi => WalkArith.wf_u64 (hf i hi)
  have HW0 : Hid (Below w0.heap.size w0 w) := hw
  have HRI : Hid (RowIs w G f) := hr
  have hlen : (rowI f 2824).length = L * 1 := by rw [rowI_len]; omega
  have hL2 : L ≤ 100000 := by omega
  obtain ⟨rw_, hrw⟩ : ∃ l, rowI f 2824 = l := ⟨_, rfl⟩
  have HRW : Hid (rowI f 2824 = rw_) := hrw
  have hone : ∀ v ∈ rw_, v.oneCell' = true := by rw [← hrw]; exact rowI_one _ _
  have HNEWS : Hid (∀ w1, Below w.heap.size w w1 → ∀ (i : Nat) (u : Value), rw_[i]? = some u → w1.cell? ((⟨G, 0, none⟩ : Addr).add i) = some u) := fun w1 hb i u hu => by
    rw [← hrw] at hu
    exact news_of (f := f) (w := w1) (b := G) (fun i hi => ⟨(hr.later (Nat.le_refl _) hb).cell i hi, HF.out i hi⟩) i u hu
  rw [hrw] at hlen
  rw [hL]
  have hnews1 := HNEWS.out w (Below.refl _ _)
  clear hw hr hf hrw hL
  have hnil : w.ownsRow w.heap.size 35 1 (.slice none 0 0) 0 [] := World.ownsRow_nil _ _ _ _
  go_enter Tryz.func9, Tryz.ntmps9
  repeat (first
    | (at_builtin; refine wpList_append_own _ rfl _ _ 25 rfl w.heap.size 35 i0 (.int .u64 0) 1 8 Tryz.underlying25 hi hz0 hz1 hz2 rfl (by decide) _ 0 [] rfl hnil ⟨G, 0, none⟩ L L rw_ rfl hlen hnews1 hone (by unfold maxLen; omega) (by omega) (Nat.le_refl _) ?_
       intro v' w1 hrow hg hnil'
       have hb1 : Below w.heap.size w w1 := (Below.refl _ _).grown hg (Nat.le_refl _) (fun k hk => by cases hk)
       obtain ⟨va, vc, rfl, hva⟩ := ownsRow_form0 hrow
       obtain ⟨g, rfl, hgw⟩ := hva.resolve_left (by have := HL.out; omega)
       have hr0 : RowO w1 g vc := by
         refine RowO.of_own (B := w.heap.size) (f := f) ?_ HF.out
         rw [HRW.out]
         have := HL.out
         subst this
         exact hrow
       have HB1 : Hid (Below w.heap.size w w1) := hb1
       have HR1 : Hid (RowO w1 g vc) := hr0
       have HG1 : Hid (w.heap.size ≤ g) := hgw
       have hnews2 := HNEWS.out w1 hb1
       have hnil2 : w1.ownsRow w1.heap.size 35 1 (.slice none 0 0) 0 [] := World.ownsRow_nil _ _ _ _
       clear hrow hg hnil' hb1 hr0 hgw hva hnews1 hnil)
    | (at_builtin; refine wpList_append_own _ rfl _ _ 25 rfl w1.heap.size 35 i0 (.int .u64 0) 1 8 Tryz.underlying25 hi hz0 hz1 hz2 rfl (by decide) _ 0 [] rfl hnil2 ⟨G, 0, none⟩ L L rw_ rfl hlen hnews2 hone (by unfold maxLen; omega) (by omega) (Nat.le_refl _) ?_
       intro v'' w2 hrow hg hnil'
       have hb2 : Below w1.heap.size w1 w2 := (Below.refl _ _).grown hg (Nat.le_refl _) (fun k hk => by cases hk)
       obtain ⟨va, vd, rfl, hva⟩ := ownsRow_form0 hrow
       obtain ⟨g2, rfl, hgw⟩ := hva.resolve_left (by have := HL.out; omega)
       have hr0 : RowO w2 g2 vd := by
         refine RowO.of_own (B := w1.heap.size) (f := f) ?_ HF.out
         rw [HRW.out]
         have := HL.out
         subst this
         exact hrow
       have HB2 : Hid (Below w.heap.size w w2) := HB1.out.trans (hb2.mono HB1.out.size)
       have HR1' : Hid (RowO w2 g vc) := HR1.out.of_block (hb2.block _ HR1.out.lt)
       have HR2 : Hid (RowO w2 g2 vd) := hr0
       have HG2 : Hid (w1.heap.size ≤ g2 ∧ g < w1.heap.size) := ⟨hgw, HR1.out.lt⟩
       clear hrow hg hnil' hb2 hr0 hgw hva hnews2 hnil2)
    | go_step)
  go_ret
  have hl := HL.out
  subst hl
  have hs1 := HB1.out.size
  have hs2 := HB2.out.size
  obtain ⟨q1, q2⟩ := HG2.out
  have q3 := HG1.out
  have hq0 := HW0.out.size
  refine ⟨⟨w2.heap.size, g, vc, g2, vd⟩, rfl, new_is w0 w2 g vc g2 vd (HW0.out.trans (HB2.out.mono hq0)) HR1'.out HR2.out (by omega) (by omega) (by omega), ?_, HB2.out.alloc hs2 _⟩
  intro j hj
  simp only [RLay.blocks, List.mem_cons, List.not_mem_nil, or_false] at hj
  omega

end Go.Proofs.YtomlbifplliakaaGreat
