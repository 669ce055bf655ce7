/- A file of the laws, and what end makes of it: the changes are stored, or all is undone. -/
import Derived.Test.YtdjnkibnnjobpaaGreatBop
import Derived.Test.YtdjnkibnnjobpaaGreatChs
namespace Go.Proofs.YtdjnkibnnjobpaaGreat
open Go.RowKit Go.Maps Go.ChangeMaps

/-- A file of the laws: its view, its memory, its number, its card, and the document's bytes. -/
def FObj (w : World) (b vb mb : Nat) (node k l s v d0 d1 d2 d3 d4 m : Int) (t : ByteArray) : Prop := w.heap[b]? = some (.cells #[.pointer (some ⟨vb, 0, none⟩), .pointer (some ⟨mb, 0, none⟩), .int .i64 node, .int .i64 k, .int .i64 l, .int .i64 s, .int .u64 v, .int .i64 d0, .int .i64 d1, .int .i64 d2, .int .i64 d3, .int .i64 d4, .int .i64 m, .string t] 41 (0, 0))
section
variable {w w' : World} {b vb mb : Nat} {node k l s v d0 d1 d2 d3 d4 m : Int} {t : ByteArray}
theorem FObj.lt (h : FObj w b vb mb node k l s v d0 d1 d2 d3 d4 m t) : b < w.heap.size := (Array.getElem?_eq_some_iff.1 h).1
theorem FObj.frozen (h : FObj w b vb mb node k l s v d0 d1 d2 d3 d4 m t) (i : Nat) : w.frozen? ⟨b, i, none⟩ = false := frozen_of_row w b i _ _ h
theorem FObj.of_block (h : FObj w b vb mb node k l s v d0 d1 d2 d3 d4 m t) (hb : w'.heap[b]? = w.heap[b]?) : FObj w' b vb mb node k l s v d0 d1 d2 d3 d4 m t := hb.trans h
theorem FObj.later (h : FObj w b vb mb node k l s v d0 d1 d2 d3 d4 m t) (hb : Below w.heap.size w w') : FObj w' b vb mb node k l s v d0 d1 d2 d3 d4 m t := h.of_block (hb.block b h.lt)
theorem FObj.only {X : List Nat} (h : FObj w b vb mb node k l s v d0 d1 d2 d3 d4 m t) (ho : Only X w w') (hX : b ∉ X) : FObj w' b vb mb node k l s v d0 d1 d2 d3 d4 m t := h.of_block (ho.block b h.lt hX)
theorem FObj.c0 (h : FObj w b vb mb node k l s v d0 d1 d2 d3 d4 m t) : w.cell? ⟨b, 0, none⟩ = some (.pointer (some ⟨vb, 0, none⟩)) := by rw [cell_of_row w b 0 _ _ _ h]; rfl
theorem FObj.c1 (h : FObj w b vb mb node k l s v d0 d1 d2 d3 d4 m t) : w.cell? ⟨b, 1, none⟩ = some (.pointer (some ⟨mb, 0, none⟩)) := by rw [cell_of_row w b 1 _ _ _ h]; rfl
theorem FObj.c2 (h : FObj w b vb mb node k l s v d0 d1 d2 d3 d4 m t) : w.cell? ⟨b, 2, none⟩ = some (.int .i64 node) := by rw [cell_of_row w b 2 _ _ _ h]; rfl
theorem FObj.c3 (h : FObj w b vb mb node k l s v d0 d1 d2 d3 d4 m t) : w.cell? ⟨b, 3, none⟩ = some (.int .i64 k) := by rw [cell_of_row w b 3 _ _ _ h]; rfl
theorem FObj.c4 (h : FObj w b vb mb node k l s v d0 d1 d2 d3 d4 m t) : w.cell? ⟨b, 4, none⟩ = some (.int .i64 l) := by rw [cell_of_row w b 4 _ _ _ h]; rfl
theorem FObj.c5 (h : FObj w b vb mb node k l s v d0 d1 d2 d3 d4 m t) : w.cell? ⟨b, 5, none⟩ = some (.int .i64 s) := by rw [cell_of_row w b 5 _ _ _ h]; rfl
theorem FObj.c6 (h : FObj w b vb mb node k l s v d0 d1 d2 d3 d4 m t) : w.cell? ⟨b, 6, none⟩ = some (.int .u64 v) := by rw [cell_of_row w b 6 _ _ _ h]; rfl
theorem FObj.c7 (h : FObj w b vb mb node k l s v d0 d1 d2 d3 d4 m t) : w.cell? ⟨b, 7, none⟩ = some (.int .i64 d0) := by rw [cell_of_row w b 7 _ _ _ h]; rfl
theorem FObj.c8 (h : FObj w b vb mb node k l s v d0 d1 d2 d3 d4 m t) : w.cell? ⟨b, 8, none⟩ = some (.int .i64 d1) := by rw [cell_of_row w b 8 _ _ _ h]; rfl
theorem FObj.c9 (h : FObj w b vb mb node k l s v d0 d1 d2 d3 d4 m t) : w.cell? ⟨b, 9, none⟩ = some (.int .i64 d2) := by rw [cell_of_row w b 9 _ _ _ h]; rfl
theorem FObj.c10 (h : FObj w b vb mb node k l s v d0 d1 d2 d3 d4 m t) : w.cell? ⟨b, 10, none⟩ = some (.int .i64 d3) := by rw [cell_of_row w b 10 _ _ _ h]; rfl
theorem FObj.c11 (h : FObj w b vb mb node k l s v d0 d1 d2 d3 d4 m t) : w.cell? ⟨b, 11, none⟩ = some (.int .i64 d4) := by rw [cell_of_row w b 11 _ _ _ h]; rfl
theorem FObj.c12 (h : FObj w b vb mb node k l s v d0 d1 d2 d3 d4 m t) : w.cell? ⟨b, 12, none⟩ = some (.int .i64 m) := by rw [cell_of_row w b 12 _ _ _ h]; rfl
theorem FObj.c13 (h : FObj w b vb mb node k l s v d0 d1 d2 d3 d4 m t) : w.cell? ⟨b, 13, none⟩ = some (.string t) := by rw [cell_of_row w b 13 _ _ _ h]; rfl
end
theorem st3 {w : World} {b : Nat} {t : TypeId} {x0 x1 x2 x3 x4 x5 x6 x7 x8 x9 x10 x11 x12 x13 : Value} (h : w.heap[b]? = some (.cells #[x0, x1, x2, x3, x4, x5, x6, x7, x8, x9, x10, x11, x12, x13] t (0, 0))) (y : Value) : (w.setCell ⟨b, 3, none⟩ y).heap[b]? = some (.cells #[x0, x1, x2, y, x4, x5, x6, x7, x8, x9, x10, x11, x12, x13] t (0, 0)) := by
  rw [heap_setCell_same w b 3 _ _ y h]
  rfl
theorem st4 {w : World} {b : Nat} {t : TypeId} {x0 x1 x2 x3 x4 x5 x6 x7 x8 x9 x10 x11 x12 x13 : Value} (h : w.heap[b]? = some (.cells #[x0, x1, x2, x3, x4, x5, x6, x7, x8, x9, x10, x11, x12, x13] t (0, 0))) (y : Value) : (w.setCell ⟨b, 4, none⟩ y).heap[b]? = some (.cells #[x0, x1, x2, x3, y, x5, x6, x7, x8, x9, x10, x11, x12, x13] t (0, 0)) := by
  rw [heap_setCell_same w b 4 _ _ y h]
  rfl
theorem st5 {w : World} {b : Nat} {t : TypeId} {x0 x1 x2 x3 x4 x5 x6 x7 x8 x9 x10 x11 x12 x13 : Value} (h : w.heap[b]? = some (.cells #[x0, x1, x2, x3, x4, x5, x6, x7, x8, x9, x10, x11, x12, x13] t (0, 0))) (y : Value) : (w.setCell ⟨b, 5, none⟩ y).heap[b]? = some (.cells #[x0, x1, x2, x3, x4, y, x6, x7, x8, x9, x10, x11, x12, x13] t (0, 0)) := by
  rw [heap_setCell_same w b 5 _ _ y h]
  rfl
theorem st6 {w : World} {b : Nat} {t : TypeId} {x0 x1 x2 x3 x4 x5 x6 x7 x8 x9 x10 x11 x12 x13 : Value} (h : w.heap[b]? = some (.cells #[x0, x1, x2, x3, x4, x5, x6, x7, x8, x9, x10, x11, x12, x13] t (0, 0))) (y : Value) : (w.setCell ⟨b, 6, none⟩ y).heap[b]? = some (.cells #[x0, x1, x2, x3, x4, x5, y, x7, x8, x9, x10, x11, x12, x13] t (0, 0)) := by
  rw [heap_setCell_same w b 6 _ _ y h]
  rfl
theorem st7 {w : World} {b : Nat} {t : TypeId} {x0 x1 x2 x3 x4 x5 x6 x7 x8 x9 x10 x11 x12 x13 : Value} (h : w.heap[b]? = some (.cells #[x0, x1, x2, x3, x4, x5, x6, x7, x8, x9, x10, x11, x12, x13] t (0, 0))) (y : Value) : (w.setCell ⟨b, 7, none⟩ y).heap[b]? = some (.cells #[x0, x1, x2, x3, x4, x5, x6, y, x8, x9, x10, x11, x12, x13] t (0, 0)) := by
  rw [heap_setCell_same w b 7 _ _ y h]
  rfl
theorem st8 {w : World} {b : Nat} {t : TypeId} {x0 x1 x2 x3 x4 x5 x6 x7 x8 x9 x10 x11 x12 x13 : Value} (h : w.heap[b]? = some (.cells #[x0, x1, x2, x3, x4, x5, x6, x7, x8, x9, x10, x11, x12, x13] t (0, 0))) (y : Value) : (w.setCell ⟨b, 8, none⟩ y).heap[b]? = some (.cells #[x0, x1, x2, x3, x4, x5, x6, x7, y, x9, x10, x11, x12, x13] t (0, 0)) := by
  rw [heap_setCell_same w b 8 _ _ y h]
  rfl
theorem st9 {w : World} {b : Nat} {t : TypeId} {x0 x1 x2 x3 x4 x5 x6 x7 x8 x9 x10 x11 x12 x13 : Value} (h : w.heap[b]? = some (.cells #[x0, x1, x2, x3, x4, x5, x6, x7, x8, x9, x10, x11, x12, x13] t (0, 0))) (y : Value) : (w.setCell ⟨b, 9, none⟩ y).heap[b]? = some (.cells #[x0, x1, x2, x3, x4, x5, x6, x7, x8, y, x10, x11, x12, x13] t (0, 0)) := by
  rw [heap_setCell_same w b 9 _ _ y h]
  rfl
theorem st10 {w : World} {b : Nat} {t : TypeId} {x0 x1 x2 x3 x4 x5 x6 x7 x8 x9 x10 x11 x12 x13 : Value} (h : w.heap[b]? = some (.cells #[x0, x1, x2, x3, x4, x5, x6, x7, x8, x9, x10, x11, x12, x13] t (0, 0))) (y : Value) : (w.setCell ⟨b, 10, none⟩ y).heap[b]? = some (.cells #[x0, x1, x2, x3, x4, x5, x6, x7, x8, x9, y, x11, x12, x13] t (0, 0)) := by
  rw [heap_setCell_same w b 10 _ _ y h]
  rfl
theorem st11 {w : World} {b : Nat} {t : TypeId} {x0 x1 x2 x3 x4 x5 x6 x7 x8 x9 x10 x11 x12 x13 : Value} (h : w.heap[b]? = some (.cells #[x0, x1, x2, x3, x4, x5, x6, x7, x8, x9, x10, x11, x12, x13] t (0, 0))) (y : Value) : (w.setCell ⟨b, 11, none⟩ y).heap[b]? = some (.cells #[x0, x1, x2, x3, x4, x5, x6, x7, x8, x9, x10, y, x12, x13] t (0, 0)) := by
  rw [heap_setCell_same w b 11 _ _ y h]
  rfl
theorem st12 {w : World} {b : Nat} {t : TypeId} {x0 x1 x2 x3 x4 x5 x6 x7 x8 x9 x10 x11 x12 x13 : Value} (h : w.heap[b]? = some (.cells #[x0, x1, x2, x3, x4, x5, x6, x7, x8, x9, x10, x11, x12, x13] t (0, 0))) (y : Value) : (w.setCell ⟨b, 12, none⟩ y).heap[b]? = some (.cells #[x0, x1, x2, x3, x4, x5, x6, x7, x8, x9, x10, x11, y, x13] t (0, 0)) := by
  rw [heap_setCell_same w b 12 _ _ y h]
  rfl
theorem st13 {w : World} {b : Nat} {t : TypeId} {x0 x1 x2 x3 x4 x5 x6 x7 x8 x9 x10 x11 x12 x13 : Value} (h : w.heap[b]? = some (.cells #[x0, x1, x2, x3, x4, x5, x6, x7, x8, x9, x10, x11, x12, x13] t (0, 0))) (y : Value) : (w.setCell ⟨b, 13, none⟩ y).heap[b]? = some (.cells #[x0, x1, x2, x3, x4, x5, x6, x7, x8, x9, x10, x11, x12, y] t (0, 0)) := by
  rw [heap_setCell_same w b 13 _ _ y h]
  rfl
/-- A view at rest: nothing is written, nothing avoided; its memory doesn't stand still. -/
structure Rest (w : World) (V : VLay) (S : Vw) (L : Lay) (M : Mem) (q : Nat) : Prop where
  on : On w V S 0 L M
  own : ∀ k, S.own k = none
  away : S.away = Vw.new.away
  stops : M.stops = false
  len : M.sure.length = 2824
  calls : M.calls ≤ q
theorem Rest.word {w : World} {V : VLay} {S : Vw} {L : Lay} {M : Mem} {q : Nat} (h : Rest w V S L M q) (j : Int) : S.word M j = M.read j := by
  unfold Vw.word
  rw [h.own j]
  rfl

set_option maxHeartbeats 4000000 in
set_option maxRecDepth 100000 in
theorem end_yes (V : VLay) (S : Vw) (N : Nat) (L : Lay) (M : Mem) (b : Nat) (node k l s v d0 d1 d2 d3 d4 m k' l' s' v' e0 e1 e2 e3 e4 m' : Int) (t0 t : ByteArray) (q : Nat) (w : World) (h : On w V S N L M) (hN : N < 900000000) (ha : S.away = Vw.new.away) (hs : M.stops = false) (hl : M.sure.length = 2824) (hq : M.calls ≤ q) (hq2 : q < 900000000)
    (hf : FObj w b V.vb L.mb node k l s v d0 d1 d2 d3 d4 m t0) (hbV : b ∉ V.all) (hbL : b ∉ L.blocks) :
    Calls Tryz.prog 16 #[.pointer (some ⟨b, 0, none⟩), .agg #[.int .i64 k', .int .i64 l', .int .i64 s', .int .u64 v', .int .i64 e0, .int .i64 e1, .int .i64 e2, .int .i64 e3, .int .i64 e4, .int .i64 m'], .string t, .int .i64 0, .int .i64 0] w fun e w' => e = .returned (.bool true) ∧ ∃ G S' M', w.heap.size ≤ G ∧ Rest w' (V.anew G) S' L M' (q + 2824) ∧ (∀ j, M'.read j = S.word M j) ∧ FObj w' b V.vb L.mb node k' l' s' v' e0 e1 e2 e3 e4 m' t ∧ Only (b :: V.vb :: L.blocks) w w' := by
  have H : Hid (On w V S N L M) := h
  have HF : Hid (FObj w b V.vb L.mb node k l s v d0 d1 d2 d3 d4 m t0) := hf
  have HBV : Hid (b ∉ V.all) := hbV
  have HBL : Hid (b ∉ L.blocks) := hbL
  have HLL : Hid (∀ j ∈ L.blocks, j < w.heap.size) := h.mem.all_lt
  have HVL : Hid (∀ j ∈ V.all, j < w.heap.size) := h.view.all_lt
  have HST : Hid (M.stops = false ∧ M.sure.length = 2824) := ⟨hs, hl⟩
  have HAW : Hid (S.away = Vw.new.away) := ha
  have HGD : Hid (Good S M (S.changes M)) := good_changes h.view
  have hlen := changes_len S M
  have HCH : Hid (∀ w1, Below w.heap.size w w1 → Calls Tryz.prog 38 #[.pointer (some ⟨V.vb, 0, none⟩)] w1 fun e w' => ∃ v, e = .returned v ∧ OwnChg w' w1.heap.size v (S.changes M) ∧ Below w1.heap.size w1 w') := fun w1 hb => vchanges_any V S N L M w1 (h.later hb).view (h.later hb).mem h.mb (by omega)
  obtain ⟨cs, hcs⟩ : ∃ cs, S.changes M = cs := ⟨_, rfl⟩
  rw [hcs] at HGD HCH hlen
  obtain ⟨nc, hnc⟩ : ∃ nc, cs.length = nc := ⟨_, rfl⟩
  have HNC : Hid (cs.length = nc) := hnc
  rw [hnc] at hlen
  clear h hf hbV hbL ha hs hl hcs hnc
  go_enter Tryz.func16, Tryz.ntmps16
  have hba : Below w.heap.size w (w.alloc (.cells #[.int .i64 k', .int .i64 l', .int .i64 s', .int .u64 v', .int .i64 e0, .int .i64 e1, .int .i64 e2, .int .i64 e3, .int .i64 e4, .int .i64 m'] 39)) := (Below.refl _ _).alloc (Nat.le_refl _) _
  have HFa := HF.out.later hba
  have f0 := HFa.c0
  have HBA : Hid _ := hba
  have hbox : CardAt (w.alloc (.cells #[.int .i64 k', .int .i64 l', .int .i64 s', .int .u64 v', .int .i64 e0, .int .i64 e1, .int .i64 e2, .int .i64 e3, .int .i64 e4, .int .i64 m'] 39)) w.heap.size k' l' s' v' e0 e1 e2 e3 e4 m' := heap_alloc_new _ _
  have HBX : Hid (CardAt (w.alloc (.cells #[.int .i64 k', .int .i64 l', .int .i64 s', .int .u64 v', .int .i64 e0, .int .i64 e1, .int .i64 e2, .int .i64 e3, .int .i64 e4, .int .i64 m'] 39)) w.heap.size k' l' s' v' e0 e1 e2 e3 e4 m') := hbox
  clear hba hbox
  go_wp2_with fail
  refine Calls.mono (HCH.out _ HBA.out) ?_
  rintro e w2 ⟨v2, rfl, hown, hb2⟩
  obtain ⟨a, c, rfl, hle, hat, hab⟩ := OwnChg.at hown
  rw [HNC.out] at hle
  have HB2 : Hid (Below w.heap.size w w2) := HBA.out.trans (hb2.mono (by simp))
  have HC2 : Hid (CardAt w2 w.heap.size k' l' s' v' e0 e1 e2 e3 e4 m') := HBX.out.later hb2
  have HF2 : Hid (FObj w2 b V.vb L.mb node k l s v d0 d1 d2 d3 d4 m t0) := HFa.later hb2
  have HAT : Hid (ChgsAt w2 a cs) := hat
  have HAB : Hid (∀ g, a.map (·.block) = some g → w.heap.size ≤ g ∧ g < w2.heap.size) := fun g hg => ⟨by have := (hab g hg).1; simp at this; omega, (hab g hg).2⟩
  have HM2 : Hid (MemIs w2 L M) := (H.out.later HB2.out).mem
  rw [HNC.out]
  clear hown hat hab hb2 HFa f0
  go_wp2
  go_loopw [12] (fun i wr => ∃ (j : Nat) (M' : Mem), j ≤ nc ∧ i = .int .i64 j ∧ Hid (Put M cs j M') ∧ Hid (MemIs wr L M') ∧ Hid (Only L.blocks w2 wr)) (fun i _ => nc - (intOf i).toNat)
  case atStart => exact ⟨0, M, Nat.zero_le _, rfl, put_zero HST.out.1 HST.out.2, HM2, Only.refl _ _⟩
  case round =>
    obtain ⟨j, M', hj, rfl, HP, HM, HO⟩ := hrel
    have HFr : Hid (FObj wr b V.vb L.mb node k l s v d0 d1 d2 d3 d4 m t0) := HF2.out.only HO.out HBL.out
    by_cases hlt : j < nc
    · have hjn : (j : Int) < (nc : Int) := by omega
      have f1 := HFr.out.c1
      obtain ⟨g, o, rfl, hgl, hc⟩ := HAT.out.resolve_left (fun e => by have := HNC.out; rw [e] at this; simp at this; omega)
      obtain ⟨x1, x2⟩ := hc j (by rw [HNC.out]; exact hlt)
      have hx : ∀ i, wr.cell? ⟨g, i, none⟩ = w2.cell? ⟨g, i, none⟩ := fun i => World.cell?_of_block (a := ⟨g, i, none⟩) (HO.out.block g hgl (fun hm => by have h1 := (HAB.out g rfl).1; have h2 := HLL.out g hm; omega))
      rw [← hx] at x1 x2
      have hop := HGD.out.open_ j (by rw [HNC.out]; exact hlt)
      have hval := HGD.out.val j (by rw [HNC.out]; exact hlt)
      have hvb := H.out.ok (cs.getD j (0, 0)).1
      rw [← hval] at hvb
      obtain ⟨HP', herr⟩ := HP.out.step HGD.out (by rw [HNC.out]; exact hlt)
      have HPN : Hid _ := HP'
      obtain ⟨K, hK⟩ : ∃ K, (cs.getD j (0, 0)).1 = K := ⟨_, rfl⟩
      obtain ⟨Z, hZ⟩ : ∃ Z, (cs.getD j (0, 0)).2 = Z := ⟨_, rfl⟩
      rw [hK] at x1 hop herr
      rw [hZ] at x2 hvb
      rw [hK, hZ] at HPN
      unfold openI at hop
      have HSto : Hid (∀ w1, wr.heap = w1.heap → wr.os = w1.os → MemIs w1 L M' → Calls Tryz.prog 39 #[.pointer (some ⟨L.mb, 0, none⟩), .int .i64 K, .int .u64 Z] w1 fun e w' => e = .returned (.int .i64 0) ∧ MemIs w' L (M'.store K Z) ∧ Only L.blocks w1 w') := fun w1 _ _ hm => by
        have h := store_any L M' K Z w1 hm (by have := HP.out.calls; omega) (WalkArith.wf_i64 (by omega)) (WalkArith.wf_u64 hvb)
        rw [herr] at h
        exact h
      have HGL : Hid (g < wr.heap.size ∧ g ∉ L.blocks) := ⟨by have := HO.out.size; omega, fun hm => by have h1 := (HAB.out g rfl).1; have h2 := HLL.out g hm; omega⟩
      clear HP' hx hc hK hZ hval hop hvb herr
      go_wp2
      go_region_held3 (fun v' => v'.cell? ⟨b, 1, none⟩ = some (.pointer (some ⟨L.mb, 0, none⟩)) ∧ v'.cell? ⟨g, o + j * 2, none⟩ = some (.int .i64 K) ∧ v'.cell? ⟨g, o + j * 2 + 1, none⟩ = some (.int .u64 Z)) (first | go_keep | exact ⟨f1, x1, x2⟩)
        (first
          | (go_at_call 39; refine Calls.mono (HSto.out _ rfl rfl (by first | exact HM.out | exact HM.out.drew)) ?_; rintro e w5 ⟨rfl, h5, ho5⟩; have f1 : w5.cell? ⟨b, 1, none⟩ = some (.pointer (some ⟨L.mb, 0, none⟩)) := (World.cell?_of_block (a := ⟨b, 1, none⟩) (ho5.block _ HFr.out.lt HBL.out)).trans f1; have x1 : w5.cell? ⟨g, o + j * 2, none⟩ = some (.int .i64 K) := (World.cell?_of_block (a := ⟨g, o + j * 2, none⟩) (ho5.block _ HGL.out.1 HGL.out.2)).trans x1; have x2 : w5.cell? ⟨g, o + j * 2 + 1, none⟩ = some (.int .u64 Z) := (World.cell?_of_block (a := ⟨g, o + j * 2 + 1, none⟩) (ho5.block _ HGL.out.1 HGL.out.2)).trans x2))
      all_goals
        have H5 : Hid (MemIs w5 L (M'.store K Z)) := h5
        have HO5 : Hid (Only L.blocks w2 w5) := HO.out.trans (by first | exact ho5 | exact ⟨ho5.os, ho5.tape, ho5.output, ho5.size, ho5.block⟩)
        clear h5 ho5 f1 x1 x2
        go_wp2
        go_roundw
        case rel => exact ⟨j + 1, M'.store K Z, by omega, by go_num, HPN, H5, HO5⟩
        case measure => simp [intOf]; omega
    · have hjn : ¬ (j : Int) < (nc : Int) := by omega
      have HPE : Hid (Put M cs cs.length M') := by rw [HNC.out, show nc = j by omega]; exact HP.out
      have HCr : Hid (CardAt wr w.heap.size k' l' s' v' e0 e1 e2 e3 e4 m') := HC2.out.only HO.out (fun hm => by have := HLL.out _ hm; omega)
      obtain ⟨c0, c1, c2, c3, c4, c5, c6, c7, c8, c9⟩ := HCr.out.ten
      have f0 := HFr.out.c0
      have g3 := HFr.out.c3
      have g4 := HFr.out.c4
      have g5 := HFr.out.c5
      have g6 := HFr.out.c6
      have g7 := HFr.out.c7
      have g8 := HFr.out.c8
      have g9 := HFr.out.c9
      have g10 := HFr.out.c10
      have g11 := HFr.out.c11
      have g12 := HFr.out.c12
      have g13 := HFr.out.c13
      have gf := HFr.out.frozen
      have HONb : Hid (Only [b] wr (((((((((((wr.setCell ⟨b, 3, none⟩ (.int .i64 k')).setCell ⟨b, 4, none⟩ (.int .i64 l')).setCell ⟨b, 5, none⟩ (.int .i64 s')).setCell ⟨b, 6, none⟩ (.int .u64 v')).setCell ⟨b, 7, none⟩ (.int .i64 e0)).setCell ⟨b, 8, none⟩ (.int .i64 e1)).setCell ⟨b, 9, none⟩ (.int .i64 e2)).setCell ⟨b, 10, none⟩ (.int .i64 e3)).setCell ⟨b, 11, none⟩ (.int .i64 e4)).setCell ⟨b, 12, none⟩ (.int .i64 m')).setCell ⟨b, 13, none⟩ (.string t))) := (((((((((((Only.refl _ wr).setCell (p := ⟨b, 3, none⟩) (by simp) _).setCell (p := ⟨b, 4, none⟩) (by simp) _).setCell (p := ⟨b, 5, none⟩) (by simp) _).setCell (p := ⟨b, 6, none⟩) (by simp) _).setCell (p := ⟨b, 7, none⟩) (by simp) _).setCell (p := ⟨b, 8, none⟩) (by simp) _).setCell (p := ⟨b, 9, none⟩) (by simp) _).setCell (p := ⟨b, 10, none⟩) (by simp) _).setCell (p := ⟨b, 11, none⟩) (by simp) _).setCell (p := ⟨b, 12, none⟩) (by simp) _).setCell (p := ⟨b, 13, none⟩) (by simp) _
      have HFn : Hid (FObj (((((((((((wr.setCell ⟨b, 3, none⟩ (.int .i64 k')).setCell ⟨b, 4, none⟩ (.int .i64 l')).setCell ⟨b, 5, none⟩ (.int .i64 s')).setCell ⟨b, 6, none⟩ (.int .u64 v')).setCell ⟨b, 7, none⟩ (.int .i64 e0)).setCell ⟨b, 8, none⟩ (.int .i64 e1)).setCell ⟨b, 9, none⟩ (.int .i64 e2)).setCell ⟨b, 10, none⟩ (.int .i64 e3)).setCell ⟨b, 11, none⟩ (.int .i64 e4)).setCell ⟨b, 12, none⟩ (.int .i64 m')).setCell ⟨b, 13, none⟩ (.string t)) b V.vb L.mb node k' l' s' v' e0 e1 e2 e3 e4 m' t) := st13 (st12 (st11 (st10 (st9 (st8 (st7 (st6 (st5 (st4 (st3 HFr.out (.int .i64 k')) (.int .i64 l')) (.int .i64 s')) (.int .u64 v')) (.int .i64 e0)) (.int .i64 e1)) (.int .i64 e2)) (.int .i64 e3)) (.int .i64 e4)) (.int .i64 m')) (.string t)
      have HVn : Hid (ViewIs (((((((((((wr.setCell ⟨b, 3, none⟩ (.int .i64 k')).setCell ⟨b, 4, none⟩ (.int .i64 l')).setCell ⟨b, 5, none⟩ (.int .i64 s')).setCell ⟨b, 6, none⟩ (.int .u64 v')).setCell ⟨b, 7, none⟩ (.int .i64 e0)).setCell ⟨b, 8, none⟩ (.int .i64 e1)).setCell ⟨b, 9, none⟩ (.int .i64 e2)).setCell ⟨b, 10, none⟩ (.int .i64 e3)).setCell ⟨b, 11, none⟩ (.int .i64 e4)).setCell ⟨b, 12, none⟩ (.int .i64 m')).setCell ⟨b, 13, none⟩ (.string t)) V S N) := (((H.out.later HB2.out).view.kept HO.out (fun j hj hx => H.out.vl j hx hj))).kept HONb.out (fun j hj hx => by simp at hx; subst hx; exact HBV.out hj)
      have HMn : Hid (MemIs (((((((((((wr.setCell ⟨b, 3, none⟩ (.int .i64 k')).setCell ⟨b, 4, none⟩ (.int .i64 l')).setCell ⟨b, 5, none⟩ (.int .i64 s')).setCell ⟨b, 6, none⟩ (.int .u64 v')).setCell ⟨b, 7, none⟩ (.int .i64 e0)).setCell ⟨b, 8, none⟩ (.int .i64 e1)).setCell ⟨b, 9, none⟩ (.int .i64 e2)).setCell ⟨b, 10, none⟩ (.int .i64 e3)).setCell ⟨b, 11, none⟩ (.int .i64 e4)).setCell ⟨b, 12, none⟩ (.int .i64 m')).setCell ⟨b, 13, none⟩ (.string t)) L M') := HM.out.kept HONb.out (fun j hj hx => by simp at hx; subst hx; exact HBL.out hj)
      have hf0 := HFn.out.c0
      have HSZ : Hid (w.heap.size ≤ ((((((((((((wr.setCell ⟨b, 3, none⟩ (.int .i64 k')).setCell ⟨b, 4, none⟩ (.int .i64 l')).setCell ⟨b, 5, none⟩ (.int .i64 s')).setCell ⟨b, 6, none⟩ (.int .u64 v')).setCell ⟨b, 7, none⟩ (.int .i64 e0)).setCell ⟨b, 8, none⟩ (.int .i64 e1)).setCell ⟨b, 9, none⟩ (.int .i64 e2)).setCell ⟨b, 10, none⟩ (.int .i64 e3)).setCell ⟨b, 11, none⟩ (.int .i64 e4)).setCell ⟨b, 12, none⟩ (.int .i64 m')).setCell ⟨b, 13, none⟩ (.string t))).heap.size) := by have h1 := HB2.out.size; have h2 := HO.out.size; have h3 := HONb.out.size; show _ ≤ _; omega
      go_wp2_with fail
      obtain ⟨wS, hwS⟩ : ∃ x, (((((((((((wr.setCell ⟨b, 3, none⟩ (.int .i64 k')).setCell ⟨b, 4, none⟩ (.int .i64 l')).setCell ⟨b, 5, none⟩ (.int .i64 s')).setCell ⟨b, 6, none⟩ (.int .u64 v')).setCell ⟨b, 7, none⟩ (.int .i64 e0)).setCell ⟨b, 8, none⟩ (.int .i64 e1)).setCell ⟨b, 9, none⟩ (.int .i64 e2)).setCell ⟨b, 10, none⟩ (.int .i64 e3)).setCell ⟨b, 11, none⟩ (.int .i64 e4)).setCell ⟨b, 12, none⟩ (.int .i64 m')).setCell ⟨b, 13, none⟩ (.string t)) = x := ⟨_, rfl⟩
      rw [hwS] at HFn HVn HMn HSZ HONb ⊢
      clear hwS
      have HRS : Hid _ := vreset_any V S N wS HVn.out
      refine Calls.mono (Hid.out HRS) ?_
      rintro e w7 ⟨rfl, hv7, ho7⟩
      have HV7 : Hid _ := hv7
      have HO7 : Hid _ := ho7
      clear hv7 ho7 c0 c1 c2 c3 c4 c5 c6 c7 c8 c9 f0 g3 g4 g5 g6 g7 g8 g9 g10 g11 g12 g13 gf hf0
      go_wp2
      go_ret
      have hvbn : V.vb ∈ V.all := by simp [VLay.all, VLay.blocks]
      have hM7 : MemIs w7 L M' := HMn.out.kept HO7.out (fun j hj hx => by simp at hx; subst hx; exact H.out.vl _ hj hvbn)
      refine ⟨rfl, _, S.clean, M', HSZ.out, ⟨⟨HV7.out, hM7, H.out.mb, fun j hj hx => ?_⟩, fun _ => rfl, HAW.out, HPE.out.stops, HPE.out.len, ?_⟩, fun j => HPE.out.reads HGD.out j, HFn.out.only HO7.out (fun hm => by simp at hm; subst hm; exact HBV.out hvbn), ?_⟩
      · have h1 := HLL.out j hj
        have h2 := HSZ.out
        have h3 : j ∉ V.all := H.out.vl j hj
        simp only [VLay.anew, VLay.all, VLay.blocks, List.mem_append, List.mem_cons, List.not_mem_nil, or_false, Option.mem_toList] at hx h3
        rcases hx with ((e | e | e | e) | e) | e
        · exact h3 (.inl (.inl (.inl e)))
        · omega
        · omega
        · omega
        · exact h3 (.inl (.inr e))
        · exact h3 (.inr e)
      · have := HPE.out.calls
        have := HNC.out
        omega
      · refine ((((Only.of_below HB2.out).trans (HO.out.mono (fun x hx => by simp [hx]))).trans (HONb.out.mono (fun x hx => by simp at hx; simp [hx]))).trans (HO7.out.mono (fun x hx => by simp at hx; simp [hx])))

end Go.Proofs.YtdjnkibnnjobpaaGreat
