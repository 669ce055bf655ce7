/- Two files on a new memory; the first fifty steps; whether a file is whole. -/
import Derived.Test.YtdjnkibnnjobpaaGreatBdV
namespace Go.Proofs.YtdjnkibnnjobpaaGreat
open Go.RowKit Go.Maps Go.ChangeMaps

def newC : Crd := ⟨1, 1, 0, 1, -1, -1, -1, -1, -1, -1⟩
theorem newF (node : Int) (h : 0 ≤ node) : FOk M0.read node newC ⟨#[]⟩ := by
  refine ⟨⟨rfl, rfl, rfl⟩, newfile fun b b0 b1 => by rw [M0_zero _ (by omega) (by omega)]; omega, rfl, by decide, fun i hi => ?_⟩
  have e : fileB M0.read (mapF M0.read (-1) (-1) (-1) (-1) (-1) (-1)) i = 0 := hole_byte (newmap _ _)
  refine e.trans ?_
  exact (Wd.bAt_out _ i (Nat.zero_le _)).symm
theorem M0_rest {w : World} {V : VLay} {L : Lay} (h : On w V Vw.new 0 L M0) : Rest w V Vw.new L M0 0 := ⟨h, fun _ => rfl, rfl, by unfold M0; rfl, M0_len, by show M0.calls ≤ 0; unfold M0; exact Nat.le_refl _⟩
/-- What two answers. -/
def TwoTo (w w' : World) (e : Ending) : Prop := ∃ b1 b2 V L, e = .returned (.agg #[.pointer (some ⟨b1, 0, none⟩), .pointer (some ⟨b2, 0, none⟩)]) ∧ b1 ≠ b2 ∧ FSt w' b1 V Vw.new L M0 0 2 newC ⟨#[]⟩ ∧ FSt w' b2 V Vw.new L M0 0 3 newC ⟨#[]⟩ ∧ Below w.heap.size w w' ∧ w.heap.size ≤ b1 ∧ w.heap.size ≤ b2 ∧ (∀ x ∈ V.all, w.heap.size ≤ x) ∧ (∀ x ∈ L.blocks, w.heap.size ≤ x)
set_option maxHeartbeats 4000000 in
set_option maxRecDepth 100000 in
theorem two_any (w : World) : Calls Tryz.prog 8 #[] w fun e w' => TwoTo w w' e := by
  go_enter Tryz.func8, Tryz.ntmps8
  have hba : Below w.heap.size w (w.alloc (.cells #[.pointer none, .pointer none] 25)) := (Below.refl _ _).alloc (Nat.le_refl _) _
  have hat : (w.alloc (.cells #[.pointer none, .pointer none] 25)).heap[w.heap.size]? = some (.cells #[.pointer none, .pointer none] 25 (0, 0)) := heap_alloc_new _ _
  have HBA : Hid _ := hba
  have HAT : Hid _ := hat
  clear hba hat
  go_wp2_with fail
  obtain ⟨wA, hwA⟩ : ∃ x, (w.alloc (.cells #[.pointer none, .pointer none] 25)) = x := ⟨_, rfl⟩
  rw [hwA] at HBA HAT ⊢
  clear hwA
  refine (image_nil _).mono ?_
  rintro e w1 ⟨G, rfl, hr, _, hb1⟩
  have HB1 : Hid (Below wA.heap.size wA w1) := hb1
  go_wp2_with fail
  refine (load_img G headN _ hr (fun i _ => headN_wf i)).mono ?_
  rintro e w2 ⟨L, rfl, hm2, hll, hb2⟩
  have HM2 : Hid (MemIs w2 L M0) := hm2
  have HBB : Hid (Below w1.heap.size w1 w2) := hb2
  have HLL : Hid (∀ j ∈ L.blocks, w1.heap.size ≤ j) := hll
  clear hr hb1 hm2 hb2 hll
  go_wp2_with fail
  refine (vnew_yes L M0 w2 HM2.out M0_len).mono ?_
  rintro e w3 ⟨rfl, hv3, hb3⟩
  have hs := begin_ses HB1.out HM2.out HBB.out hv3 hb3
  obtain ⟨V, hV⟩ : ∃ A, newLay L.mb w2.heap.size = A := ⟨_, rfl⟩
  rw [hV] at hs
  have HS3 : Hid (Ses wA w3 V Vw.new 0 L M0) := hs
  have HVV : Hid (V.vb = w2.heap.size) := by rw [← hV]; rfl
  have HL1 : Hid (wA.heap.size ≤ w1.heap.size) := HB1.out.size
  rw [← HVV.out]
  clear hv3 hb3 hV hs HB1 HM2 HBB
  go_wp2_with fail
  refine (refFresh_yes 1 1 w3 (.inl rfl)).mono ?_
  rintro e w4 ⟨rfl, hb4⟩
  have HS4 : Hid (Ses wA w4 V Vw.new 0 L M0) := HS3.out.later hb4
  clear hb4
  have h0 : wA.cell? ⟨w.heap.size, 0, none⟩ = some (.pointer none) := by rw [cell_of_row wA _ 0 _ _ _ HAT.out]; rfl
  have h1 : wA.cell? ⟨w.heap.size, 1, none⟩ = some (.pointer none) := by rw [cell_of_row wA _ 1 _ _ _ HAT.out]; rfl
  have HA4 : Hid (w4.heap[w.heap.size]? = some (.cells #[.pointer none, .pointer none] 25 (0, 0))) := by
    show _ = _
    rw [HS4.out.bel.block _ (Array.getElem?_eq_some_iff.1 HAT.out).1]; exact HAT.out
  clear h0 h1
  have hk : ∀ o1 o2 o3, (((w4.alloc o1).alloc o2).alloc o3).heap[w.heap.size]? = some (.cells #[.pointer none, .pointer none] 25 (0, 0)) := fun o1 o2 o3 => by
    have hlt := (Array.getElem?_eq_some_iff.1 HA4.out).1
    rw [((((Below.refl w4.heap.size w4).alloc (Nat.le_refl _) o1).alloc (by simp) o2).alloc (by simp; omega) o3).block _ hlt]
    exact HA4.out
  have HKK : Hid (∀ o1 o2 o3, (((w4.alloc o1).alloc o2).alloc o3).heap[w.heap.size]? = some (.cells #[.pointer none, .pointer none] 25 (0, 0))) := hk
  have a0 : ∀ o1 o2 o3, (((w4.alloc o1).alloc o2).alloc o3).cell? ⟨w.heap.size, 0, none⟩ = some (.pointer none) := fun o1 o2 o3 => by rw [cell_of_row _ _ 0 _ _ _ (hk o1 o2 o3)]; rfl
  have a1 : ∀ o1 o2 o3, (((w4.alloc o1).alloc o2).alloc o3).cell? ⟨w.heap.size, 1, none⟩ = some (.pointer none) := fun o1 o2 o3 => by rw [cell_of_row _ _ 1 _ _ _ (hk o1 o2 o3)]; rfl
  have af : ∀ o1 o2 o3 i, (((w4.alloc o1).alloc o2).alloc o3).frozen? ⟨w.heap.size, i, none⟩ = false := fun o1 o2 o3 i => frozen_of_row _ _ i _ _ (hk o1 o2 o3)
  have ag : ∀ o1 o2 o3 v i, ((((w4.alloc o1).alloc o2).alloc o3).setCell ⟨w.heap.size, 0, none⟩ v).frozen? ⟨w.heap.size, i, none⟩ = false := fun o1 o2 o3 v i => frozen_of_row _ _ i _ _ (heap_setCell_same _ _ _ _ _ _ (hk o1 o2 o3))
  have hne : w4.heap.size ≠ w.heap.size := by have := (Array.getElem?_eq_some_iff.1 HA4.out).1; omega
  clear hk
  go_wp2
  have hb5 : Below w4.heap.size w4 (((w4.alloc (.cells #[.int .i64 1, .int .i64 1, .int .i64 0, .int .u64 1, .int .i64 (-1), .int .i64 (-1), .int .i64 (-1), .int .i64 (-1), .int .i64 (-1), .int .i64 (-1)] 39)).alloc (.cells #[.pointer (some ⟨V.vb, 0, none⟩), .pointer (some ⟨L.mb, 0, none⟩), .int .i64 2, .int .i64 1, .int .i64 1, .int .i64 0, .int .u64 1, .int .i64 (-1), .int .i64 (-1), .int .i64 (-1), .int .i64 (-1), .int .i64 (-1), .int .i64 (-1), .string ⟨#[]⟩] 41)).alloc (.cells #[.pointer (some ⟨V.vb, 0, none⟩), .pointer (some ⟨L.mb, 0, none⟩), .int .i64 3, .int .i64 1, .int .i64 1, .int .i64 0, .int .u64 1, .int .i64 (-1), .int .i64 (-1), .int .i64 (-1), .int .i64 (-1), .int .i64 (-1), .int .i64 (-1), .string ⟨#[]⟩] 41)) := (((Below.refl w4.heap.size w4).alloc (Nat.le_refl _) _).alloc (by simp) _).alloc (by simp; omega) _
  have hr5 := HKK.out (.cells #[.int .i64 1, .int .i64 1, .int .i64 0, .int .u64 1, .int .i64 (-1), .int .i64 (-1), .int .i64 (-1), .int .i64 (-1), .int .i64 (-1), .int .i64 (-1)] 39) (.cells #[.pointer (some ⟨V.vb, 0, none⟩), .pointer (some ⟨L.mb, 0, none⟩), .int .i64 2, .int .i64 1, .int .i64 1, .int .i64 0, .int .u64 1, .int .i64 (-1), .int .i64 (-1), .int .i64 (-1), .int .i64 (-1), .int .i64 (-1), .int .i64 (-1), .string ⟨#[]⟩] 41) (.cells #[.pointer (some ⟨V.vb, 0, none⟩), .pointer (some ⟨L.mb, 0, none⟩), .int .i64 3, .int .i64 1, .int .i64 1, .int .i64 0, .int .u64 1, .int .i64 (-1), .int .i64 (-1), .int .i64 (-1), .int .i64 (-1), .int .i64 (-1), .int .i64 (-1), .string ⟨#[]⟩] 41)
  have h51 : ((((w4.alloc (.cells #[.int .i64 1, .int .i64 1, .int .i64 0, .int .u64 1, .int .i64 (-1), .int .i64 (-1), .int .i64 (-1), .int .i64 (-1), .int .i64 (-1), .int .i64 (-1)] 39)).alloc (.cells #[.pointer (some ⟨V.vb, 0, none⟩), .pointer (some ⟨L.mb, 0, none⟩), .int .i64 2, .int .i64 1, .int .i64 1, .int .i64 0, .int .u64 1, .int .i64 (-1), .int .i64 (-1), .int .i64 (-1), .int .i64 (-1), .int .i64 (-1), .int .i64 (-1), .string ⟨#[]⟩] 41)).alloc (.cells #[.pointer (some ⟨V.vb, 0, none⟩), .pointer (some ⟨L.mb, 0, none⟩), .int .i64 3, .int .i64 1, .int .i64 1, .int .i64 0, .int .u64 1, .int .i64 (-1), .int .i64 (-1), .int .i64 (-1), .int .i64 (-1), .int .i64 (-1), .int .i64 (-1), .string ⟨#[]⟩] 41))).heap[w4.heap.size + 1]? = some (.cells #[.pointer (some ⟨V.vb, 0, none⟩), .pointer (some ⟨L.mb, 0, none⟩), .int .i64 2, .int .i64 1, .int .i64 1, .int .i64 0, .int .u64 1, .int .i64 (-1), .int .i64 (-1), .int .i64 (-1), .int .i64 (-1), .int .i64 (-1), .int .i64 (-1), .string ⟨#[]⟩] 41 (0, 0)) := by
    have h := heap_alloc_new (w4.alloc (.cells #[.int .i64 1, .int .i64 1, .int .i64 0, .int .u64 1, .int .i64 (-1), .int .i64 (-1), .int .i64 (-1), .int .i64 (-1), .int .i64 (-1), .int .i64 (-1)] 39)) (.cells #[.pointer (some ⟨V.vb, 0, none⟩), .pointer (some ⟨L.mb, 0, none⟩), .int .i64 2, .int .i64 1, .int .i64 1, .int .i64 0, .int .u64 1, .int .i64 (-1), .int .i64 (-1), .int .i64 (-1), .int .i64 (-1), .int .i64 (-1), .int .i64 (-1), .string ⟨#[]⟩] 41)
    rw [World.size_alloc] at h
    rw [Below.heap_alloc _ _ _ (by simp)]
    exact h
  have h52 : ((((w4.alloc (.cells #[.int .i64 1, .int .i64 1, .int .i64 0, .int .u64 1, .int .i64 (-1), .int .i64 (-1), .int .i64 (-1), .int .i64 (-1), .int .i64 (-1), .int .i64 (-1)] 39)).alloc (.cells #[.pointer (some ⟨V.vb, 0, none⟩), .pointer (some ⟨L.mb, 0, none⟩), .int .i64 2, .int .i64 1, .int .i64 1, .int .i64 0, .int .u64 1, .int .i64 (-1), .int .i64 (-1), .int .i64 (-1), .int .i64 (-1), .int .i64 (-1), .int .i64 (-1), .string ⟨#[]⟩] 41)).alloc (.cells #[.pointer (some ⟨V.vb, 0, none⟩), .pointer (some ⟨L.mb, 0, none⟩), .int .i64 3, .int .i64 1, .int .i64 1, .int .i64 0, .int .u64 1, .int .i64 (-1), .int .i64 (-1), .int .i64 (-1), .int .i64 (-1), .int .i64 (-1), .int .i64 (-1), .string ⟨#[]⟩] 41))).heap[w4.heap.size + 1 + 1]? = some (.cells #[.pointer (some ⟨V.vb, 0, none⟩), .pointer (some ⟨L.mb, 0, none⟩), .int .i64 3, .int .i64 1, .int .i64 1, .int .i64 0, .int .u64 1, .int .i64 (-1), .int .i64 (-1), .int .i64 (-1), .int .i64 (-1), .int .i64 (-1), .int .i64 (-1), .string ⟨#[]⟩] 41 (0, 0)) := by
    have h := heap_alloc_new ((w4.alloc (.cells #[.int .i64 1, .int .i64 1, .int .i64 0, .int .u64 1, .int .i64 (-1), .int .i64 (-1), .int .i64 (-1), .int .i64 (-1), .int .i64 (-1), .int .i64 (-1)] 39)).alloc (.cells #[.pointer (some ⟨V.vb, 0, none⟩), .pointer (some ⟨L.mb, 0, none⟩), .int .i64 2, .int .i64 1, .int .i64 1, .int .i64 0, .int .u64 1, .int .i64 (-1), .int .i64 (-1), .int .i64 (-1), .int .i64 (-1), .int .i64 (-1), .int .i64 (-1), .string ⟨#[]⟩] 41)) (.cells #[.pointer (some ⟨V.vb, 0, none⟩), .pointer (some ⟨L.mb, 0, none⟩), .int .i64 3, .int .i64 1, .int .i64 1, .int .i64 0, .int .u64 1, .int .i64 (-1), .int .i64 (-1), .int .i64 (-1), .int .i64 (-1), .int .i64 (-1), .int .i64 (-1), .string ⟨#[]⟩] 41)
    rw [World.size_alloc, World.size_alloc] at h
    exact h
  obtain ⟨w5, hw5⟩ : ∃ x, ((((w4.alloc (.cells #[.int .i64 1, .int .i64 1, .int .i64 0, .int .u64 1, .int .i64 (-1), .int .i64 (-1), .int .i64 (-1), .int .i64 (-1), .int .i64 (-1), .int .i64 (-1)] 39)).alloc (.cells #[.pointer (some ⟨V.vb, 0, none⟩), .pointer (some ⟨L.mb, 0, none⟩), .int .i64 2, .int .i64 1, .int .i64 1, .int .i64 0, .int .u64 1, .int .i64 (-1), .int .i64 (-1), .int .i64 (-1), .int .i64 (-1), .int .i64 (-1), .int .i64 (-1), .string ⟨#[]⟩] 41)).alloc (.cells #[.pointer (some ⟨V.vb, 0, none⟩), .pointer (some ⟨L.mb, 0, none⟩), .int .i64 3, .int .i64 1, .int .i64 1, .int .i64 0, .int .u64 1, .int .i64 (-1), .int .i64 (-1), .int .i64 (-1), .int .i64 (-1), .int .i64 (-1), .int .i64 (-1), .string ⟨#[]⟩] 41))) = x := ⟨_, rfl⟩
  rw [hw5] at hb5 hr5 h51 h52 ⊢
  clear hw5 a0 a1 af ag
  have ho6 : Only [w.heap.size] w5 ((w5.setCell ⟨w.heap.size, 0, none⟩ (.pointer (some ⟨w4.heap.size + 1, 0, none⟩))).setCell ⟨w.heap.size, 1, none⟩ (.pointer (some ⟨w4.heap.size + 1 + 1, 0, none⟩))) := ((Only.refl _ w5).setCell (p := ⟨w.heap.size, 0, none⟩) (by simp) _).setCell (p := ⟨w.heap.size, 1, none⟩) (by simp) _
  have hr6 : ((w5.setCell ⟨w.heap.size, 0, none⟩ (.pointer (some ⟨w4.heap.size + 1, 0, none⟩))).setCell ⟨w.heap.size, 1, none⟩ (.pointer (some ⟨w4.heap.size + 1 + 1, 0, none⟩))).heap[w.heap.size]? = some (.cells #[.pointer (some ⟨w4.heap.size + 1, 0, none⟩), .pointer (some ⟨w4.heap.size + 1 + 1, 0, none⟩)] 25 (0, 0)) := by
    rw [heap_setCell_same _ w.heap.size 1 _ _ _ (heap_setCell_same _ w.heap.size 0 _ _ _ hr5)]
    rfl
  obtain ⟨w6, hw6⟩ : ∃ x, ((w5.setCell ⟨w.heap.size, 0, none⟩ (.pointer (some ⟨w4.heap.size + 1, 0, none⟩))).setCell ⟨w.heap.size, 1, none⟩ (.pointer (some ⟨w4.heap.size + 1 + 1, 0, none⟩))) = x := ⟨_, rfl⟩
  rw [hw6] at ho6 hr6 ⊢
  clear hw6
  have z0 : w6.cell? ⟨w.heap.size, 0, none⟩ = some (.pointer (some ⟨w4.heap.size + 1, 0, none⟩)) := by rw [cell_of_row _ _ 0 _ _ _ hr6]; rfl
  have z1 : w6.cell? ⟨w.heap.size, 1, none⟩ = some (.pointer (some ⟨w4.heap.size + 1 + 1, 0, none⟩)) := by rw [cell_of_row _ _ 1 _ _ _ hr6]; rfl
  have hA := (Array.getElem?_eq_some_iff.1 HAT.out).1
  have hA4 := HS4.out.bel.size
  have hon5 := HS4.out.on.later hb5
  have hS6 : On w6 V Vw.new 0 L M0 := ⟨hon5.view.kept ho6 (fun j hj hx => by simp at hx; have := HS4.out.low j hj; omega), hon5.mem.kept ho6 (fun j hj hx => by simp at hx; have := HLL.out j hj; have := HL1.out; omega), hon5.mb, hon5.vl⟩
  refine bodyPost_ret (v := .agg #[.pointer (some ⟨w4.heap.size + 1, 0, none⟩), .pointer (some ⟨w4.heap.size + 1 + 1, 0, none⟩)]) (by simp [results, Tryz.results8, go_sem, z0, z1]) rfl ?_
  have hlow : ∀ x ∈ V.all, w.heap.size ≤ x := fun x hx => by have := HS4.out.low x hx; omega
  have hllo : ∀ x ∈ L.blocks, w.heap.size ≤ x := fun x hx => by have := HLL.out x hx; have := HL1.out; omega
  have hvl : ∀ x ∈ V.all, x < w4.heap.size := HS4.out.on.view.all_lt
  have hml : ∀ x ∈ L.blocks, x < w4.heap.size := HS4.out.on.mem.all_lt
  have hbel : Below w.heap.size w w6 := (HBA.out.trans (HS4.out.bel.mono HBA.out.size)).trans ((hb5.mono (by omega)).trans (ho6.below (by have := hb5.size; omega) (fun k hk => by simp at hk; omega)))
  refine ⟨w4.heap.size + 1, w4.heap.size + 1 + 1, V, L, rfl, by omega, ⟨M0_rest hS6, ?_, fun hm => by have := hvl _ hm; omega, fun hm => by have := hml _ hm; omega, newF 2 (by omega)⟩, ⟨M0_rest hS6, ?_, fun hm => by have := hvl _ hm; omega, fun hm => by have := hml _ hm; omega, newF 3 (by omega)⟩, hbel, by omega, by omega, hlow, hllo⟩
  · exact (ho6.block _ (Array.getElem?_eq_some_iff.1 h51).1 (by simp; omega)).trans h51
  · exact (ho6.block _ (Array.getElem?_eq_some_iff.1 h52).1 (by simp; omega)).trans h52

end Go.Proofs.YtdjnkibnnjobpaaGreat
