/- The document's own view over words: its Read, and what New makes. -/
import Derived.Test.YtdjnkibnnjobpaaBdP
import Derived.Test.YtdjnkibnnjobpaaBop
import Derived.Maps.AppendAt
namespace Go.Proofs.Ytdjnkibnnjobpaa
open Go.RowKit Go.Maps Go.ChangeMaps

/-- The document's view at rb, whose newer row lies at nb. -/
structure RV (w : World) (rb nb nc : Nat) (f : Nat → Int) : Prop where
  lt : rb < w.heap.size
  c1 : w.cell? ⟨rb, 1, none⟩ = some (.slice (some ⟨nb, 0, none⟩) 2824 nc)
  nlt : nb < w.heap.size
  cap : 2824 ≤ nc
  row : ∀ i, i < 2824 → w.cell? ⟨nb, i, none⟩ = some (.int .u64 (f i))
theorem RV.later {w w' : World} {rb nb nc : Nat} {f : Nat → Int} (h : RV w rb nb nc f) (hb : Below w.heap.size w w') : RV w' rb nb nc f :=
  ⟨Nat.lt_of_lt_of_le h.lt hb.size, (World.cell?_of_block (a := ⟨rb, 1, none⟩) (hb.block rb h.lt)).trans h.c1, Nat.lt_of_lt_of_le h.nlt hb.size, h.cap, fun i hi => (World.cell?_of_block (a := ⟨nb, i, none⟩) (hb.block nb h.nlt)).trans (h.row i hi)⟩
set_option maxHeartbeats 1000000 in
set_option maxRecDepth 100000 in
theorem rv_read (w : World) (rb nb nc : Nat) (f : Nat → Int) (k : Nat) (h : RV w rb nb nc f) (hk : k < 2824) :
    Calls Try.prog 32 #[.pointer (some ⟨rb, 0, none⟩), .int .i64 k] w fun e w' => e = .returned (.int .u64 (f k)) ∧ w' = w := by
  have c1 := h.c1
  have x1 := h.row k hk
  obtain ⟨L, hL⟩ : ∃ L : Nat, 2824 = L := ⟨_, rfl⟩
  rw [hL] at c1
  have h1 : (k : Int) < (L : Int) := by omega
  have h2 : ¬ (L : Int) ≤ (k : Int) := by omega
  obtain ⟨X, hX⟩ : ∃ X, f k = X := ⟨_, rfl⟩
  rw [hX] at x1 ⊢
  clear hk hL hX h
  go_enter Try.func32, Try.ntmps32
  go_wp2
  go_ret
  exact ⟨rfl, rfl⟩
theorem own_cells {w : World} {B b c : Nat} {f : Nat → Int} {n : Nat} (h : w.ownsRow B 23 1 (.slice (some ⟨b, 0, none⟩) n c) n (rowI f n)) : b < w.heap.size ∧ n ≤ c ∧ ∀ i, i < n → w.cell? ⟨b, i, none⟩ = some (.int .u64 (f i)) := by
  have h' := h
  rcases h.2 with ⟨e, _⟩ | ⟨g, cap, cur, e, _, hb, hle, _⟩
  · cases e
  · cases e
    exact ⟨(Array.getElem?_eq_some_iff.1 hb).1, hle, fun i hi => by rw [h'.cellAt _ (by omega)]; exact rowI_at f n i hi⟩
theorem row_news {w : World} {b n : Nat} {f : Nat → Int} (hf : ∀ i, i < n → w.cell? ⟨b, i, none⟩ = some (.int .u64 (f i))) (i : Nat) (u : Value) (hu : (rowI f n)[i]? = some u) : w.cell? ((⟨b, 0, none⟩ : Addr).add i) = some u := by
  by_cases hi : i < n
  · rw [rowI_at _ _ _ hi] at hu
    cases hu
    rw [Addr.add_lit, Nat.zero_add]
    exact hf i hi
  · rw [rowI_out _ _ _ hi] at hu
    cases hu
theorem rv_made (w : World) (cs : Array Value) (t : TypeId) (rb nb nc : Nat) (f : Nat → Int) (h1 : nb < w.heap.size) (h2 : 2824 ≤ nc) (h3 : ∀ i, i < 2824 → w.cell? ⟨nb, i, none⟩ = some (.int .u64 (f i))) (hc : rb = w.heap.size ∧ cs[1]? = some (.slice (some ⟨nb, 0, none⟩) 2824 nc)) : RV (w.alloc (.cells cs t)) rb nb nc f := by
  obtain ⟨rfl, hc⟩ := hc
  have hb : Below w.heap.size w (w.alloc (.cells cs t)) := (Below.refl _ _).alloc (Nat.le_refl _) _
  exact ⟨by simp, by rw [cell_of_row _ _ 1 _ _ _ (heap_alloc_new w _)]; exact hc, by simp; omega, h2, fun i hi => (World.cell?_of_block (a := ⟨nb, i, none⟩) (hb.block nb h1)).trans (h3 i hi)⟩
theorem info22m : (Try.prog.info? 23).map (fun i => (i.zero, i.size, i.bytes)) = some (some (.int .u64 0), 1, 8) := by kernel_rfl
set_option maxHeartbeats 2000000 in
set_option maxRecDepth 100000 in
theorem rv_new (w : World) (G : Nat) (f : Nat → Int) (hr : RowIs w G f) :
    Calls Try.prog 10 #[.slice (some ⟨G, 0, none⟩) 2824 2824] w fun e w' => ∃ rb nb nc, e = .returned (.pointer (some ⟨rb, 0, none⟩)) ∧ RV w' rb nb nc f ∧ Below w.heap.size w w' := by
  obtain ⟨i0, hi, hz0, hz1, hz2⟩ := info_parts info22m
  obtain ⟨L, hL⟩ : ∃ L : Nat, 2824 = L := ⟨_, rfl⟩
  have HL : Hid (2824 = L) := hL
  have hlen : (rowI f 2824).length = L * 1 := by rw [rowI_len]; omega
  have hL2 : L ≤ 100000 := by omega
  obtain ⟨rw_, hrw⟩ : ∃ l, rowI f 2824 = l := ⟨_, rfl⟩
  have HRW : Hid (rowI f 2824 = rw_) := hrw
  have hone : ∀ v ∈ rw_, v.oneCell' = true := by rw [← hrw]; exact rowI_one _ _
  have HNEWS : Hid (∀ w1, Below w.heap.size w w1 → ∀ (i : Nat) (u : Value), rw_[i]? = some u → w1.cell? ((⟨G, 0, none⟩ : Addr).add i) = some u) := fun w1 hb i u hu => by
    rw [← hrw] at hu
    exact row_news (f := f) (w := w1) (b := G) (fun i hi => (hr.later (Nat.le_refl _) hb).cell i hi) i u hu
  rw [hrw] at hlen
  rw [hL]
  have hnews1 := HNEWS.out w (Below.refl _ _)
  clear hr hrw hL
  have hnil : w.ownsRow w.heap.size 23 1 (.slice none 0 0) 0 [] := World.ownsRow_nil _ _ _ _
  go_enter Try.func10, Try.ntmps10
  repeat (first
    | (at_builtin; refine wpList_append_own _ rfl _ _ 30 rfl w.heap.size 23 i0 (.int .u64 0) 1 8 Try.underlying30 hi hz0 hz1 hz2 rfl (by decide) _ 0 [] rfl hnil ⟨G, 0, none⟩ L L rw_ rfl hlen hnews1 hone (by unfold maxLen; omega) (by omega) (Nat.le_refl _) ?_
       intro v' w1 hrow hg hnil'
       have hb1 : Below w.heap.size w w1 := (Below.refl _ _).grown hg (Nat.le_refl _) (fun k hk => by cases hk)
       obtain ⟨va, vc, rfl, hva⟩ := ownsRow_form0 hrow
       have HB1 : Hid (Below w.heap.size w w1) := hb1
       have hnews2 := HNEWS.out w1 hb1
       have hnil2 : w1.ownsRow w1.heap.size 23 1 (.slice none 0 0) 0 [] := World.ownsRow_nil _ _ _ _
       clear hrow hg hnil' hb1 hva hnews1 hnil)
    | (at_builtin; refine wpList_append_own _ rfl _ _ 30 rfl w1.heap.size 23 i0 (.int .u64 0) 1 8 Try.underlying30 hi hz0 hz1 hz2 rfl (by decide) _ 0 [] rfl hnil2 ⟨G, 0, none⟩ L L rw_ rfl hlen hnews2 hone (by unfold maxLen; omega) (by omega) (Nat.le_refl _) ?_
       intro v'' w2 hrow hg hnil'
       have hb2 : Below w1.heap.size w1 w2 := (Below.refl _ _).grown hg (Nat.le_refl _) (fun k hk => by cases hk)
       obtain ⟨vb, vd, rfl, hva⟩ := ownsRow_form0 hrow
       obtain ⟨g2, rfl, hgw⟩ := hva.resolve_left (by have := HL.out; omega)
       have HB2 : Hid (Below w.heap.size w w2) := HB1.out.trans (hb2.mono HB1.out.size)
       have HC2 : Hid (g2 < w2.heap.size ∧ 2824 ≤ vd ∧ ∀ i, i < 2824 → w2.cell? ⟨g2, i, none⟩ = some (.int .u64 (f i))) := by
         refine own_cells (B := w1.heap.size) ?_
         rw [HRW.out]
         have := HL.out
         subst this
         exact hrow
       clear hrow hg hnil' hb2 hgw hva hnews2 hnil2)
    | go_step)
  go_ret
  have hl := HL.out
  subst hl
  refine ⟨w2.heap.size, g2, vd, rfl, ?_, HB2.out.alloc HB2.out.size _⟩
  obtain ⟨h1, h2, h3⟩ := HC2.out
  exact rv_made _ _ _ _ _ _ _ h1 h2 h3 ⟨rfl, rfl⟩

end Go.Proofs.Ytdjnkibnnjobpaa
