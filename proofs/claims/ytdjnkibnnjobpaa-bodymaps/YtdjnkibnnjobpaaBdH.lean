/- Contracts of Keep: the card with a map. -/
import Derived.Test.YtdjnkibnnjobpaaBdG
namespace Go.Proofs.Ytdjnkibnnjobpaa
open Go.RowKit Go.Maps Go.ChangeMaps

/-- A card in a block. -/
def CardAt (w : World) (g : Nat) (k l s v d0 d1 d2 d3 d4 m : Int) : Prop := w.heap[g]? = some (.cells #[.int .i64 k, .int .i64 l, .int .i64 s, .int .u64 v, .int .i64 d0, .int .i64 d1, .int .i64 d2, .int .i64 d3, .int .i64 d4, .int .i64 m] 26 (0, 0))
section
variable {w w' : World} {g : Nat} {k l s v d0 d1 d2 d3 d4 m : Int}
theorem CardAt.lt (h : CardAt w g k l s v d0 d1 d2 d3 d4 m) : g < w.heap.size := (Array.getElem?_eq_some_iff.1 h).1
theorem CardAt.ten (h : CardAt w g k l s v d0 d1 d2 d3 d4 m) : Cd.Ten w g k l s v d0 d1 d2 d3 d4 m := by
  unfold Cd.Ten
  unfold CardAt at h
  simp [cell_of_row w g _ _ _ _ h]
theorem CardAt.frozen (h : CardAt w g k l s v d0 d1 d2 d3 d4 m) (i : Nat) : w.frozen? ⟨g, i, none⟩ = false := frozen_of_row w g i _ _ h
theorem CardAt.of_block (h : CardAt w g k l s v d0 d1 d2 d3 d4 m) (hb : w'.heap[g]? = w.heap[g]?) : CardAt w' g k l s v d0 d1 d2 d3 d4 m := hb.trans h
theorem CardAt.later (h : CardAt w g k l s v d0 d1 d2 d3 d4 m) (hb : Below w.heap.size w w') : CardAt w' g k l s v d0 d1 d2 d3 d4 m := h.of_block (hb.block g h.lt)
theorem CardAt.only {X : List Nat} (h : CardAt w g k l s v d0 d1 d2 d3 d4 m) (ho : Only X w w') (hX : g ∉ X) : CardAt w' g k l s v d0 d1 d2 d3 d4 m := h.of_block (ho.block g h.lt hX)
/-- A card and an empty one, in two new blocks. -/
theorem two_cards (w : World) (k l s v d0 d1 d2 d3 d4 m : Int) : ∃ X : World, (w.alloc (.cells #[.int .i64 k, .int .i64 l, .int .i64 s, .int .u64 v, .int .i64 d0, .int .i64 d1, .int .i64 d2, .int .i64 d3, .int .i64 d4, .int .i64 m] 26)).alloc (.cells #[.int .i64 0, .int .i64 0, .int .i64 0, .int .u64 0, .int .i64 0, .int .i64 0, .int .i64 0, .int .i64 0, .int .i64 0, .int .i64 0] 26) = X ∧ Hid (X.heap.size = w.heap.size + 2) ∧ Hid (Below w.heap.size w X) ∧ Hid (CardAt X w.heap.size k l s v d0 d1 d2 d3 d4 m) ∧ Hid (CardAt X (w.heap.size + 1) 0 0 0 0 0 0 0 0 0 0) := by
  refine ⟨_, rfl, by show _ = _; simp, ((Below.refl _ _).alloc (Nat.le_refl _) _).alloc (by simp) _, ?_, ?_⟩
  · show _ = _
    rw [Below.heap_alloc _ _ _ (by simp)]
    exact heap_alloc_new _ _
  · show _ = _
    have h := heap_alloc_new (w.alloc (.cells #[.int .i64 k, .int .i64 l, .int .i64 s, .int .u64 v, .int .i64 d0, .int .i64 d1, .int .i64 d2, .int .i64 d3, .int .i64 d4, .int .i64 m] 26)) (.cells #[.int .i64 0, .int .i64 0, .int .i64 0, .int .u64 0, .int .i64 0, .int .i64 0, .int .i64 0, .int .i64 0, .int .i64 0, .int .i64 0] 26)
    rw [World.size_alloc] at h
    exact h
end
/-- What Keep answers. -/
def keptV (er k l s v : Int) (f : Nat → Int) (mr : Int) : Value := if er = 0 then .agg #[.int .i64 k, .int .i64 l, .int .i64 s, .int .u64 v, .int .i64 (f 0), .int .i64 (f 1), .int .i64 (f 2), .int .i64 (f 3), .int .i64 (f 4), .int .i64 mr] else .agg #[.int .i64 0, .int .i64 0, .int .i64 0, .int .u64 0, .int .i64 0, .int .i64 0, .int .i64 0, .int .i64 0, .int .i64 0, .int .i64 0]
theorem KMore.er {S S' : Vw} {M : Mem} {node m : Int} {f : Nat → Int} {mr er : Int} (h : KMore S M node m f mr er S') : er = 0 ∨ er = 9 := by
  rcases h with ⟨_, _, _, h, _⟩ | ⟨_, _, _, h, _⟩ | ⟨_, _, h, _⟩ | ⟨_, _, h, _⟩ | ⟨_, _, h, _⟩
  · exact .inl h
  · exact .inl h
  · exact .inl h
  · exact .inr h
  · exact .inl h

theorem keep_row (k l s v d0 d1 d2 d3 d4 m : Int) (f : Nat → Int) : ([.int .i64 k, .int .i64 l, .int .i64 s, .int .u64 v, .int .i64 d0, .int .i64 d1, .int .i64 d2, .int .i64 d3, .int .i64 d4, .int .i64 m] : List Value).take 4 ++ rowV f 5 ++ ([.int .i64 k, .int .i64 l, .int .i64 s, .int .u64 v, .int .i64 d0, .int .i64 d1, .int .i64 d2, .int .i64 d3, .int .i64 d4, .int .i64 m] : List Value).drop (4 + 5) = [.int .i64 k, .int .i64 l, .int .i64 s, .int .u64 v, .int .i64 (f 0), .int .i64 (f 1), .int .i64 (f 2), .int .i64 (f 3), .int .i64 (f 4), .int .i64 m] := rfl
theorem slice5 (G o c : Nat) (hc : 21 ≤ c) (w : World) : (Instr.slice 27 (.slice (some ⟨G, o, none⟩) 21 c) (some (.int .i64 5)) none none).run Try.prog w = .ok (.slice (some ⟨G, o + 5, none⟩) 16 (c - 5)) w := by
  have h2 : ¬ c = 5 := by omega
  simp [go_sem, h2]
set_option maxHeartbeats 4000000 in
set_option maxRecDepth 100000 in
theorem keep_any (V : VLay) (S : Vw) (N : Nat) (L : Lay) (M : Mem) (node k l s v d0 d1 d2 d3 d4 m : Int) (G o c : Nat) (f : Nat → Int) (w : World) (h : On w V S N L M) (hN : N < 700000000) (n0 : 0 ≤ node) (n1 : node < 24) (m0 : -1 ≤ m) (m1 : m < 96) (hg : IntsAt w (some ⟨G, o, none⟩) 21 f) (hGV : G ∉ V.all) (hc : 21 ≤ c) (hf : ∀ i, i < 21 → -1 ≤ f i ∧ f i < 96)
    (ho : allH (fun i => f (5 + i)) 16 = true → m ≠ -1 → S.word M (200 + m) ≠ 0) :
    Calls Try.prog 15 #[.pointer (some ⟨V.vb, 0, none⟩), .int .i64 node, .agg #[.int .i64 k, .int .i64 l, .int .i64 s, .int .u64 v, .int .i64 d0, .int .i64 d1, .int .i64 d2, .int .i64 d3, .int .i64 d4, .int .i64 m], .slice (some ⟨G, o, none⟩) 21 c] w fun e w' => ∃ mr er S' N', e = .returned (.tuple #[keptV er k l s v f mr, .int .i64 er]) ∧ KMore S M node m f mr er S' ∧ On w' V S' N' L M ∧ N' ≤ N + 33 ∧ Only V.blocks w w' := by
  have H : Hid (On w V S N L M) := h
  have HVL : Hid (∀ j ∈ V.all, j < w.heap.size) := h.view.all_lt
  have HLL : Hid (∀ j ∈ L.blocks, j < w.heap.size) := h.mem.all_lt
  have HF : Hid (∀ i, i < 21 → -1 ≤ f i ∧ f i < 96) := hf
  have HI : Hid (IntsAt w (some ⟨G, o, none⟩) 21 f) := hg
  have HGV : Hid (G ∉ V.all) := hGV
  have HGW : Hid (G < w.heap.size) := by
    rcases hg with h0 | ⟨b, o', e, hl, _⟩
    · omega
    · cases e; exact hl
  have HO : Hid (allH (fun i => f (5 + i)) 16 = true → m ≠ -1 → S.word M (200 + m) ≠ 0) := ho
  have hmb : mayB f 21 = true := (mayB_iff f 21).2 ⟨rfl, hf⟩
  have HMB : Hid (∀ w1, Below w.heap.size w w1 → Calls Try.prog 34 #[.slice (some ⟨G, o, none⟩) 21 c] w1 fun e w' => e = .returned (.bool true) ∧ w' = w1) := fun w1 hb => by
    have h := mayBe_any (some ⟨G, o, none⟩) 21 c f w1 (HI.out.later (Nat.le_refl _) hb) (by omega) (fun i hi => by have := hf i hi; omega)
    rw [hmb] at h
    exact h
  have HR : Hid (∀ w1, Below w.heap.size w w1 → Calls Try.prog 33 #[.pointer (some ⟨V.vb, 0, none⟩), .int .i64 node] w1 fun e w' => e = .returned (.bool false) ∧ Below w1.heap.size w1 w') := fun w1 hb => refused_no V S N L M node w1 (H.out.later hb) n0 n1
  have HK : Hid (∀ w1, Below w.heap.size w w1 → Calls Try.prog 35 #[.pointer (some ⟨V.vb, 0, none⟩), .int .i64 node, .int .i64 m, .slice (some ⟨G, o + 5, none⟩) 16 (c - 5)] w1 fun e w' => ∃ mr er S' N', e = .returned (.tuple #[.int .i64 mr, .int .i64 er]) ∧ KMore S M node m f mr er S' ∧ On w' V S' N' L M ∧ N' ≤ N + 33 ∧ Only V.blocks w1 w') := fun w1 hb => by
    refine keepMore_any V S N L M node m G (o + 5) (c - 5) f w1 (H.out.later hb) hN n0 n1 m0 m1 ?_ HGV.out hf ho
    rcases HI.out.later (Nat.le_refl _) hb with h0 | ⟨b, o', e, hl, hc⟩
    · omega
    · cases e
      exact .inr ⟨G, o + 5, rfl, hl, fun i hi => by rw [Nat.add_assoc]; exact hc (5 + i) (by omega)⟩
  have hsl := slice5 G o c hc
  have HZN : Hid (w.heap.size + 1 ∉ V.blocks) := fun hm => absurd (HVL.out _ (V.blocks_all _ hm)) (by omega)
  have HCN : Hid (w.heap.size ∉ V.blocks) := fun hm => absurd (HVL.out _ (V.blocks_all _ hm)) (Nat.lt_irrefl _)
  clear h hf hg hGV ho hmb
  go_enter Try.func15, Try.ntmps15
  go_wp2_with fail
  obtain ⟨X, hX, HXS, HXB, HC, HZ⟩ := two_cards w k l s v d0 d1 d2 d3 d4 m
  rw [hX]
  clear hX
  refine Calls.mono (HR.out _ HXB.out) ?_
  rintro e w1 ⟨rfl, hb1⟩
  have HB1 : Hid (Below w.heap.size w w1) := HXB.out.trans (hb1.mono (by have := HXS.out; omega))
  have HC1 : Hid (CardAt w1 w.heap.size k l s v d0 d1 d2 d3 d4 m) := HC.out.later hb1
  have HZ1 : Hid (CardAt w1 (w.heap.size + 1) 0 0 0 0 0 0 0 0 0 0) := HZ.out.later hb1
  clear hb1
  go_wp2_with fail
  refine Calls.mono (HMB.out _ HB1.out) ?_
  rintro e w' ⟨rfl, hw⟩
  obtain rfl := hw.symm
  go_wp2
  obtain ⟨c0, c1, c2, c3, c4, c5, c6, c7, c8, c9⟩ := HC1.out.ten
  clear c0 c1 c2 c3 c4 c5 c6 c7 c8
  go_region_held3 (fun v' => v'.cell? ⟨w.heap.size, 9, none⟩ = some (.int .i64 m)) (first | go_keep | exact c9)
    (first
      | (go_at_call 35; refine Calls.mono (HK.out _ (by first | exact HB1.out | exact HB1.out.drew)) ?_; rintro e w2 ⟨mr, er, S', N', rfl, hk, h2, hN', ho2⟩; have c9 : w2.cell? ⟨w.heap.size, 9, none⟩ = some (.int .i64 m) := (World.cell?_of_block (a := ⟨w.heap.size, 9, none⟩) (ho2.block _ HC1.out.lt HCN.out)).trans c9))
  all_goals
    have HKM : Hid (KMore S M node m f mr er S') := hk
    have H2 : Hid (On w2 V S' N' L M) := h2
    have HN2 : Hid (N' ≤ N + 33) := hN'
    have HO2 : Hid (Only V.blocks w1 w2) := by first | exact ho2 | exact ⟨ho2.os, ho2.tape, ho2.output, ho2.size, ho2.block⟩
    have HC2 : Hid (CardAt w2 w.heap.size k l s v d0 d1 d2 d3 d4 m) := HC1.out.only HO2.out HCN.out
    have HZ2 : Hid (CardAt w2 (w.heap.size + 1) 0 0 0 0 0 0 0 0 0 0) := HZ1.out.only HO2.out HZN.out
    have HOw : Hid (Only V.blocks w w2) := (Only.of_below HB1.out).trans HO2.out
    have her := hk.er
    clear hk h2 hN' ho2 c9
    rcases her with rfl | rfl
    · have hIw : IntsAt w2 (some ⟨G, o, none⟩) 21 f := (HI.out.later (Nat.le_refl _) HB1.out).only HO2.out (fun b hb hh => by simp at hb; subst hb; exact HGV.out (V.blocks_all _ hh))
      obtain ⟨b, o', e, hl, hcc⟩ := hIw.resolve_left (by omega)
      cases e
      have hrun := run_copyV w2 w.heap.size 4 5 5 G o 21 c 5 26 [.int .i64 k, .int .i64 l, .int .i64 s, .int .u64 v, .int .i64 d0, .int .i64 d1, .int .i64 d2, .int .i64 d3, .int .i64 d4, .int .i64 m] f HC2.out (fun i hi => hcc i (by omega)) (by decide) (by simp)
      rw [keep_row] at hrun
      obtain ⟨w3, hw3⟩ : ∃ w3, w2.setRow w.heap.size ([.int .i64 k, .int .i64 l, .int .i64 s, .int .u64 v, .int .i64 (f 0), .int .i64 (f 1), .int .i64 (f 2), .int .i64 (f 3), .int .i64 (f 4), .int .i64 m]).toArray = w3 := ⟨_, rfl⟩
      have HC3 : Hid (CardAt w3 w.heap.size k l s v (f 0) (f 1) (f 2) (f 3) (f 4) m) := by rw [← hw3]; exact setRow_heap w2 w.heap.size _ _ _ _ HC2.out
      have HO3 : Hid (Only [w.heap.size] w2 w3) := by rw [← hw3]; exact only_setRow w2 w.heap.size _
      have HZ3 : Hid (CardAt w3 (w.heap.size + 1) 0 0 0 0 0 0 0 0 0 0) := HZ2.out.only HO3.out (by simp)
      rw [hw3] at hrun
      clear hw3 hcc hl hIw
      obtain ⟨c0, c1, c2, c3, c4, c5, c6, c7, c8, c9⟩ := HC3.out.ten
      have cf := HC3.out.frozen
      obtain ⟨z0, z1, z2, z3, z4, z5, z6, z7, z8, z9⟩ := HZ3.out.ten
      have zf := HZ3.out.frozen
      obtain ⟨g0, hg0⟩ : ∃ x, f 0 = x := ⟨_, rfl⟩
      obtain ⟨g1, hg1⟩ : ∃ x, f 1 = x := ⟨_, rfl⟩
      obtain ⟨g2, hg2⟩ : ∃ x, f 2 = x := ⟨_, rfl⟩
      obtain ⟨g3, hg3⟩ : ∃ x, f 3 = x := ⟨_, rfl⟩
      obtain ⟨g4, hg4⟩ : ∃ x, f 4 = x := ⟨_, rfl⟩
      have HKV : Hid (keptV 0 k l s v f mr = .agg #[.int .i64 k, .int .i64 l, .int .i64 s, .int .u64 v, .int .i64 g0, .int .i64 g1, .int .i64 g2, .int .i64 g3, .int .i64 g4, .int .i64 mr]) := by
        show _ = _
        unfold keptV
        rw [if_pos rfl, hg0, hg1, hg2, hg3, hg4]
      rw [hg0] at c4
      rw [hg1] at c5
      rw [hg2] at c6
      rw [hg3] at c7
      rw [hg4] at c8
      clear hg0 hg1 hg2 hg3 hg4
      go_wp2
      refine bodyPost_ret (v := .tuple #[.agg #[.int .i64 k, .int .i64 l, .int .i64 s, .int .u64 v, .int .i64 g0, .int .i64 g1, .int .i64 g2, .int .i64 g3, .int .i64 g4, .int .i64 mr], .int .i64 0]) (by simp [results, Try.results15, go_sem, z0, z1, z2, z3, z4, z5, z6, z7, z8, z9]) rfl ?_
      refine ⟨mr, 0, S', N', by rw [HKV.out], HKM.out, H2.out.fresh (X := [w.heap.size, w.heap.size + 1]) ?hF (B := w.heap.size) (by simp) HVL.out HLL.out, HN2.out, HOw.out.fresh (Y := [w.heap.size, w.heap.size + 1]) ?hF (by simp)⟩
      case hF => exact ((((((((((((Only.mono HO3.out (by simp)).setCell (p := ⟨w.heap.size, 9, none⟩) (by simp) (.int .i64 mr)).setCell (p := ⟨w.heap.size + 1, 0, none⟩) (by simp) _).setCell (p := ⟨w.heap.size + 1, 1, none⟩) (by simp) _).setCell (p := ⟨w.heap.size + 1, 2, none⟩) (by simp) _).setCell (p := ⟨w.heap.size + 1, 3, none⟩) (by simp) _).setCell (p := ⟨w.heap.size + 1, 4, none⟩) (by simp) _).setCell (p := ⟨w.heap.size + 1, 5, none⟩) (by simp) _).setCell (p := ⟨w.heap.size + 1, 6, none⟩) (by simp) _).setCell (p := ⟨w.heap.size + 1, 7, none⟩) (by simp) _).setCell (p := ⟨w.heap.size + 1, 8, none⟩) (by simp) _).setCell (p := ⟨w.heap.size + 1, 9, none⟩) (by simp) _)
    · obtain ⟨z0, z1, z2, z3, z4, z5, z6, z7, z8, z9⟩ := HZ2.out.ten
      have zf := HZ2.out.frozen
      go_wp2
      refine bodyPost_ret (v := .tuple #[.agg #[.int .i64 0, .int .i64 0, .int .i64 0, .int .u64 0, .int .i64 0, .int .i64 0, .int .i64 0, .int .i64 0, .int .i64 0, .int .i64 0], .int .i64 9]) (by simp [results, Try.results15, go_sem, z0, z1, z2, z3, z4, z5, z6, z7, z8, z9]) rfl ?_
      refine ⟨mr, 9, S', N', rfl, HKM.out, H2.out.fresh (X := [w.heap.size + 1]) ?hF (B := w.heap.size) (by simp) HVL.out HLL.out, HN2.out, HOw.out.fresh (Y := [w.heap.size + 1]) ?hF (by simp)⟩
      case hF => exact (((((((((((Only.refl _ w2).setCell (p := ⟨w.heap.size + 1, 0, none⟩) (by simp) _).setCell (p := ⟨w.heap.size + 1, 1, none⟩) (by simp) _).setCell (p := ⟨w.heap.size + 1, 2, none⟩) (by simp) _).setCell (p := ⟨w.heap.size + 1, 3, none⟩) (by simp) _).setCell (p := ⟨w.heap.size + 1, 4, none⟩) (by simp) _).setCell (p := ⟨w.heap.size + 1, 5, none⟩) (by simp) _).setCell (p := ⟨w.heap.size + 1, 6, none⟩) (by simp) _).setCell (p := ⟨w.heap.size + 1, 7, none⟩) (by simp) _).setCell (p := ⟨w.heap.size + 1, 8, none⟩) (by simp) _).setCell (p := ⟨w.heap.size + 1, 9, none⟩) (by simp) _)

end Go.Proofs.Ytdjnkibnnjobpaa
