/- Contracts of the view's forget, Reset, setOf, Avoid and New. -/
import Derived.Test.YtomlbifplliakaaGreatVwE
namespace Go.Proofs.YtomlbifplliakaaGreat
open Go.RowKit Go.Maps Go.ChangeMaps

set_option maxHeartbeats 1000000 in
theorem forget_any (vb : Nat) (x0 x1 x2 x3 x4 x5 : Value) (w : World) (h : w.heap[vb]? = some (.cells #[x0, x1, x2, x3, x4, x5] 62 (0, 0))) :
    Calls Tryz.prog 28 #[.pointer (some ⟨vb, 0, none⟩)] w fun e w' => e = .returned (.tuple #[]) ∧ w'.heap[vb]? = some (.cells #[x0, .map (some w.heap.size), .map (some (w.heap.size + 1)), .map (some (w.heap.size + 1 + 1)), x4, x5] 62 (0, 0))
      ∧ MapIs w' w.heap.size 0 (fun _ => none) ∧ SetIs w' (w.heap.size + 1) 0 (fun _ => false) ∧ SetIs w' (w.heap.size + 1 + 1) 0 (fun _ => false) ∧ Only [vb] w w' := by
  have hlt : vb < w.heap.size := (Array.getElem?_eq_some_iff.1 h).1
  obtain ⟨W, hW⟩ : ∃ W, ((w.alloc (.map #[] 0)).alloc (.map #[] 0)).alloc (.map #[] 0) = W := ⟨_, rfl⟩
  have h3 : W.heap[vb]? = some (.cells #[x0, x1, x2, x3, x4, x5] 62 (0, 0)) := by
    rw [← hW, Below.heap_alloc _ _ _ (by simp; omega), Below.heap_alloc _ _ _ (by simp; omega), Below.heap_alloc _ _ _ hlt]
    exact h
  have m1 : MapIs W w.heap.size 0 (fun _ => none) := (madeMap w).of_block (by rw [← hW, Below.heap_alloc _ _ _ (by simp; omega), Below.heap_alloc _ _ _ (by simp)])
  have m2 : SetIs W (w.heap.size + 1) 0 (fun _ => false) := by
    have h1 : (w.alloc (.map #[] 0)).heap.size = w.heap.size + 1 := by simp
    have h2 := smade (w.alloc (.map #[] 0))
    rw [h1] at h2
    exact h2.of_block (by rw [← hW, Below.heap_alloc _ _ _ (by simp)])
  have m3 : SetIs W (w.heap.size + 1 + 1) 0 (fun _ => false) := by
    have h1 : ((w.alloc (.map #[] 0)).alloc (.map #[] 0)).heap.size = w.heap.size + 1 + 1 := by simp
    have h2 := smade ((w.alloc (.map #[] 0)).alloc (.map #[] 0))
    rw [h1] at h2
    rw [← hW]
    exact h2
  have hO : Only [vb] w W := by rw [← hW]; exact (((Only.refl _ _).alloc _).alloc _).alloc _
  have fz : ∀ i, W.frozen? ⟨vb, i, none⟩ = false := fun i => frozen_of_row W vb i _ _ h3
  have c1 : W.cell? ⟨vb, 1, none⟩ = some x1 := by rw [cell_of_row W vb 1 _ _ _ h3]; rfl
  have c2 : W.cell? ⟨vb, 2, none⟩ = some x2 := by rw [cell_of_row W vb 2 _ _ _ h3]; rfl
  have c3 : W.cell? ⟨vb, 3, none⟩ = some x3 := by rw [cell_of_row W vb 3 _ _ _ h3]; rfl
  have fz1 := fz 1
  have fz2 := fz 2
  have fz3 := fz 3
  rw [← hW] at fz1 fz2 fz3 c1 c2 c3
  clear fz
  have hmm := @run_makeMap Tryz.prog
  have g1 := heap_setCell_same W vb 1 _ _ (Value.map (some w.heap.size)) h3
  have g2 := heap_setCell_same _ vb 2 _ _ (Value.map (some (w.heap.size + 1))) g1
  have g3 := heap_setCell_same _ vb 3 _ _ (Value.map (some (w.heap.size + 1 + 1))) g2
  have HG3 : Hid _ := g3
  clear g1 g2 g3
  have HM1 : Hid (MapIs W w.heap.size 0 (fun _ => none)) := m1
  have HM2 : Hid (SetIs W (w.heap.size + 1) 0 (fun _ => false)) := m2
  have HM3 : Hid (SetIs W (w.heap.size + 1 + 1) 0 (fun _ => false)) := m3
  have HO : Hid (Only [vb] w W) := hO
  have HW : Hid (((w.alloc (.map #[] 0)).alloc (.map #[] 0)).alloc (.map #[] 0) = W) := hW
  clear m1 m2 m3 hO hW h3 h
  go_enter Tryz.func28, Tryz.ntmps28
  go_wp2
  rw [HW.out]
  go_end0
  have hk : ∀ j, j ≠ vb → ∀ u1 u2 u3 : Value, (((W.setCell ⟨vb, 1, none⟩ u1).setCell ⟨vb, 2, none⟩ u2).setCell ⟨vb, 3, none⟩ u3).heap[j]? = W.heap[j]? := fun j hj u1 u2 u3 => by
    rw [Below.heap_setCell _ _ _ _ hj, Below.heap_setCell _ _ _ _ hj, Below.heap_setCell _ _ _ _ hj]
  exact ⟨rfl, HG3.out, HM1.out.of_block (hk _ (by omega) _ _ _), HM2.out.of_block (hk _ (by omega) _ _ _), HM3.out.of_block (hk _ (by omega) _ _ _),
    ((HO.out.setCell (p := ⟨vb, 1, none⟩) (by simp) _).setCell (p := ⟨vb, 2, none⟩) (by simp) _).setCell (p := ⟨vb, 3, none⟩) (by simp) _⟩

/-- A view that has forgotten all. -/
def VLay.anew (V : VLay) (G : Nat) : VLay := ⟨V.vb, V.mb, G, G + 1, G + 1 + 1, V.bb, V.db⟩
theorem vreset_any (V : VLay) (S : Vw) (N : Nat) (w : World) (h : ViewIs w V S N) :
    Calls Tryz.prog 44 #[.pointer (some ⟨V.vb, 0, none⟩)] w fun e w' => e = .returned (.tuple #[]) ∧ ViewIs w' (V.anew w.heap.size) S.clean 0 ∧ Only [V.vb] w w' := by
  have HF : Hid (Calls Tryz.prog 28 #[.pointer (some ⟨V.vb, 0, none⟩)] w fun e w' => e = .returned (.tuple #[]) ∧ w'.heap[V.vb]? = some (V.anew w.heap.size).obj ∧ MapIs w' w.heap.size 0 (fun _ => none) ∧ SetIs w' (w.heap.size + 1) 0 (fun _ => false) ∧ SetIs w' (w.heap.size + 1 + 1) 0 (fun _ => false) ∧ Only [V.vb] w w') := forget_any V.vb _ _ _ _ _ _ w h.obj
  have HL : Hid (V.vb < w.heap.size) := h.lt
  go_enter Tryz.func44, Tryz.ntmps44
  go_wp2_with (first
    | (go_at_call 47; refine (void_any V S N _ h).mono ?_; rintro e w' ⟨rfl, hw⟩; obtain rfl := hw.symm)
    | (go_at_call 28; refine Calls.mono (Hid.out HF) ?_; rintro e w1 ⟨rfl, ho, h1, h2, h3, hO⟩)
    | go_in)
  go_end0
  have hlt := h.lt
  have hne : ∀ x, x < w.heap.size → x ≠ w.heap.size ∧ x ≠ w.heap.size + 1 ∧ x ≠ w.heap.size + 1 + 1 := fun x hx => by omega
  refine ⟨rfl, ⟨ho, h1, h2, h3, ?_, ?_, ⟨by simp only [VLay.anew]; omega, by simp only [VLay.anew]; omega, by simp only [VLay.anew]; omega⟩, ?_, ?_, fun _ _ h => by simp [Vw.clean] at h, fun _ h => by simp [Vw.clean] at h, fun _ h => by simp [Vw.clean] at h⟩, hO⟩
  · exact h.away.of_blocks fun b e hl => hO.block b hl (by simp only [List.mem_singleton]; exact (h.vb_bb e).symm)
  · exact h.awayN.of_blocks fun b e hl => hO.block b hl (by simp only [List.mem_singleton]; exact (h.vb_db e).symm)
  · intro x e
    have := h.away
    rw [show V.bb = some x from e] at this
    exact hne x this.lt
  · intro x e
    have := h.awayN
    rw [show V.db = some x from e] at this
    exact hne x this.lt

/-- Numbers at a slice's address. -/
def IntsAt (w : World) (a : Option Addr) (n : Nat) (f : Nat → Int) : Prop := n = 0 ∨ ∃ b o, a = some ⟨b, o, none⟩ ∧ b < w.heap.size ∧ ∀ i, i < n → w.cell? ⟨b, o + i, none⟩ = some (.int .i64 (f i))
theorem IntsAt.later {w w' : World} {a : Option Addr} {n : Nat} {f : Nat → Int} (h : IntsAt w a n f) {B : Nat} (hB : w.heap.size ≤ B) (hb : Below B w w') : IntsAt w' a n f := by
  rcases h with h | ⟨b, o, e, hlt, hc⟩
  · exact .inl h
  · exact .inr ⟨b, o, e, by have := hb.size; omega, fun i hi => (hb.cell (p := ⟨b, o + i, none⟩) (by show b < B; omega)).trans (hc i hi)⟩
def namedI (f : Nat → Int) (k : Nat) : Int → Bool := fun j => decide (∃ i, i < k ∧ f i = j)
theorem namedI_zero (f : Nat → Int) : namedI f 0 = fun _ => false := by
  funext j
  unfold namedI
  rw [decide_eq_false_iff_not]
  rintro ⟨i, hi, _⟩
  omega
theorem namedI_succ (f : Nat → Int) (k : Nat) : addB (namedI f k) (f k) = namedI f (k + 1) := by
  funext j
  unfold namedI addB
  rw [Bool.eq_iff_iff]
  simp only [Bool.or_eq_true, decide_eq_true_eq]
  constructor
  · rintro (e | ⟨i, hi, e⟩)
    · exact ⟨k, by omega, e.symm⟩
    · exact ⟨i, by omega, e⟩
  · rintro ⟨i, hi, e⟩
    by_cases h : i = k
    · subst h; exact .inl e.symm
    · exact .inr ⟨i, by omega, e⟩

set_option maxHeartbeats 1000000 in
theorem setOf_any (a : Option Addr) (n c : Nat) (f : Nat → Int) (w : World) (h : IntsAt w a n f) (hf : ∀ i, i < n → (Lit.int .i64 (f i)).wf = true) (hn : n ≤ 9223372036854775807) (hn2 : n ≤ maxLen) :
    Calls Tryz.prog 64 #[.slice a n c] w fun e w' => e = .returned (.map (some w.heap.size)) ∧ SetIs w' w.heap.size n (namedI f n) ∧ Below w.heap.size w w' := by
  have HI : Hid (IntsAt w a n f) := h
  have HF : Hid (∀ i, i < n → (Lit.int .i64 (f i)).wf = true) := hf
  have HN2 : Hid (n ≤ maxLen) := hn2
  have hmm := @run_makeMap Tryz.prog
  clear h hf hn2
  go_enter Tryz.func64, Tryz.ntmps64
  go_wp2
  go_loopw [5, 9] (fun _ i wr => ∃ k : Nat, k ≤ n ∧ i = .int .i64 k ∧ Hid (SetIs wr w.heap.size k (namedI f k)) ∧ Hid (Below w.heap.size w wr)) (fun _ i _ => n - (intOf i).toNat)
  case atStart => exact ⟨0, Nat.zero_le _, rfl, by rw [namedI_zero]; exact smade w, (Below.refl _ _).alloc (Nat.le_refl _) _⟩
  case round =>
    obtain ⟨k, hk, rfl, HS, HB⟩ := hrel
    by_cases hlt : k < n
    · obtain ⟨b, o, rfl, hbl, hc⟩ := HI.out.resolve_left (by omega)
      have x1 : wr.cell? ⟨b, o + k, none⟩ = some (.int .i64 (f k)) := (HB.out.cell (p := ⟨b, o + k, none⟩) hbl).trans (hc k hlt)
      have hwk := HF.out k hlt
      have hb : (k : Int) < (n : Int) := by omega
      obtain ⟨X, hX⟩ : ∃ X, f k = X := ⟨_, rfl⟩
      rw [hX] at x1 hwk
      have KX : Hid (f k = X) := hX
      clear hX hc
      go_wp2_with (first
        | (at_mapUpdate; refine wpList_sput _ rfl _ _ _ rfl w.heap.size k (namedI f k) X rfl HS.out (Nat.lt_of_lt_of_le hlt HN2.out) rfl rfl hwk ?_; intro w2 hm2 ht2)
        | go_in)
      go_roundw
      case rel =>
        rw [← KX.out, namedI_succ] at hm2
        exact ⟨k + 1, by omega, by go_num, hm2, HB.out.grown ht2.grown HB.out.size (fun k e => by cases e; exact Nat.le_refl _)⟩
      case measure => simp [intOf]; omega
    · obtain rfl : k = n := by omega
      go_wp2
      go_ret
      exact ⟨rfl, HS.out, HB.out⟩

/-- What it is to leave alone. -/
def VLay.shun (V : VLay) (g1 g2 : Nat) : VLay := ⟨V.vb, V.mb, V.ob, V.sb, V.nb, some g1, some g2⟩
set_option maxHeartbeats 1000000 in
theorem vavoid_any (V : VLay) (S : Vw) (N : Nat) (a a' : Option Addr) (n c n' c' : Nat) (f f' : Nat → Int) (w : World) (h : ViewIs w V S N) (h1 : IntsAt w a n f) (hf : ∀ i, i < n → (Lit.int .i64 (f i)).wf = true) (hn : n ≤ 9223372036854775807) (hn2 : n ≤ maxLen)
    (h1' : IntsAt w a' n' f') (hf' : ∀ i, i < n' → (Lit.int .i64 (f' i)).wf = true) (hn' : n' ≤ 9223372036854775807) (hn2' : n' ≤ maxLen) :
    Calls Tryz.prog 39 #[.pointer (some ⟨V.vb, 0, none⟩), .slice a n c, .slice a' n' c'] w fun e w' => ∃ g1 g2, e = .returned (.tuple #[]) ∧ w.heap.size ≤ g1 ∧ w.heap.size ≤ g2 ∧ ViewIs w' (V.shun g1 g2) { S with away := namedI f n, awayN := namedI f' n' } N ∧ Only [V.vb] w w' := by
  have H1 : Hid (∀ w1, Below w.heap.size w w1 → Calls Tryz.prog 64 #[.slice a n c] w1 fun e w' => e = .returned (.map (some w1.heap.size)) ∧ SetIs w' w1.heap.size n (namedI f n) ∧ Below w1.heap.size w1 w') := fun w1 hb => setOf_any a n c f w1 (h1.later (Nat.le_refl _) hb) hf hn hn2
  have H2 : Hid (∀ w1, Below w.heap.size w w1 → Calls Tryz.prog 64 #[.slice a' n' c'] w1 fun e w' => e = .returned (.map (some w1.heap.size)) ∧ SetIs w' w1.heap.size n' (namedI f' n') ∧ Below w1.heap.size w1 w') := fun w1 hb => setOf_any a' n' c' f' w1 (h1'.later (Nat.le_refl _) hb) hf' hn' hn2'
  have HL : Hid (∀ k ∈ V.all, k < w.heap.size) := h.all_lt
  clear h1 hf hn hn2 h1' hf' hn' hn2'
  go_enter Tryz.func39, Tryz.ntmps39
  go_wp2_with fail
  refine (void_any V S N _ h).mono ?_
  rintro e w' ⟨rfl, hw⟩
  obtain rfl := hw.symm
  go_wp2_with fail
  refine Calls.mono (H1.out _ (Below.refl _ _)) ?_
  rintro e w1 ⟨rfl, s1, b1⟩
  have B1 : Hid (Below w.heap.size w w1) := b1
  have S1 : Hid (SetIs w1 w.heap.size n (namedI f n)) := s1
  clear s1 b1
  go_wp2_with fail
  refine Calls.mono (H2.out _ B1.out) ?_
  rintro e w2 ⟨rfl, s2, b2⟩
  have B2 : Hid (Below w.heap.size w w2) := B1.out.trans (b2.mono B1.out.size)
  have S2 : Hid (SetIs w2 w1.heap.size n' (namedI f' n')) := s2
  have S1' : Hid (SetIs w2 w.heap.size n (namedI f n)) := S1.out.of_block (b2.block _ S1.out.lt)
  have hV := h.later B2.out
  have c4 := hV.c4
  have c5 := hV.c5
  have f4 := hV.fz 4
  have f5 := hV.fz 5
  have g4 := heap_setCell_same w2 V.vb 4 _ _ (Value.map (some w.heap.size)) hV.obj
  have g5 := heap_setCell_same _ V.vb 5 _ _ (Value.map (some w1.heap.size)) g4
  have G5 : Hid (((w2.setCell ⟨V.vb, 4, none⟩ (Value.map (some w.heap.size))).setCell ⟨V.vb, 5, none⟩ (Value.map (some w1.heap.size))).heap[V.vb]? = some (V.shun w.heap.size w1.heap.size).obj) := g5
  have HV : Hid (ViewIs w2 V S N) := hV
  clear s2 b2 g4 g5 hV
  go_wp2
  go_end0
  have hk : ∀ j, j ≠ V.vb → ∀ u1 u2 : Value, ((w2.setCell ⟨V.vb, 4, none⟩ u1).setCell ⟨V.vb, 5, none⟩ u2).heap[j]? = w2.heap[j]? := fun j hj u1 u2 => by
    rw [Below.heap_setCell _ _ _ _ hj, Below.heap_setCell _ _ _ _ hj]
  have hlt := h.lt
  have hs1 := B1.out.size
  have hg := HV.out
  have all := HL.out
  have n1 : V.ob < w.heap.size := all _ (by simp [VLay.all, VLay.blocks])
  have n2 : V.sb < w.heap.size := all _ (by simp [VLay.all, VLay.blocks])
  have n3 : V.nb < w.heap.size := all _ (by simp [VLay.all, VLay.blocks])
  refine ⟨w.heap.size, w1.heap.size, rfl, Nat.le_refl _, hs1, ⟨G5.out, hg.own.of_block (hk _ hg.vb_ob.symm _ _), hg.seen.of_block (hk _ hg.vb_sb.symm _ _), hg.mine.of_block (hk _ hg.vb_nb.symm _ _), ⟨n, S1'.out.of_block (hk _ (by omega) _ _)⟩, ⟨n', S2.out.of_block (hk _ (by omega) _ _)⟩, hg.apart, ?_, ?_, hg.inside, hg.seenIn, hg.mineIn⟩, ?_⟩
  · intro x e
    have e : w.heap.size = x := by simpa [VLay.shun] using e
    show x ≠ V.ob ∧ x ≠ V.sb ∧ x ≠ V.nb
    omega
  · intro x e
    have e : w1.heap.size = x := by simpa [VLay.shun] using e
    show x ≠ V.ob ∧ x ≠ V.sb ∧ x ≠ V.nb
    omega
  · exact ((Only.of_below B2.out).setCell (p := ⟨V.vb, 4, none⟩) (by simp) _).setCell (p := ⟨V.vb, 5, none⟩) (by simp) _

theorem vnew_nil (w : World) : Calls Tryz.prog 8 #[.pointer none] w fun e w' => e = .returned (.pointer none) ∧ w' = w := by
  go_enter Tryz.func8, Tryz.ntmps8
  go_wp2
  go_ret
  exact ⟨rfl, rfl⟩
theorem vnew_small (L : Lay) (M : Mem) (w : World) (h : MemIs w L M) (hn : M.sure.length ≠ 2824) : Calls Tryz.prog 8 #[.pointer (some ⟨L.mb, 0, none⟩)] w fun e w' => e = .returned (.pointer none) ∧ w' = w := by
  have h1 : ((M.sure.length : Int) == 2824) = false := by simp; omega
  have h2 : ((M.sure.length : Int) != 2824) = true := by simp; omega
  have H : Hid (MemIs w L M) := h
  clear h hn
  obtain ⟨X, hX⟩ : ∃ X : Nat, M.sure.length = X := ⟨_, rfl⟩
  have HS : Hid (Calls Tryz.prog 26 #[.pointer (some ⟨L.mb, 0, none⟩)] w fun e w' => e = .returned (.int .i64 M.sure.length) ∧ w' = w) := size_any L M w H.out
  rw [hX] at HS h1 h2
  clear hX
  go_enter Tryz.func8, Tryz.ntmps8
  go_wp2_with (first
    | (go_at_call 26; refine Calls.mono (Hid.out HS) ?_; rintro e w' ⟨rfl, hw⟩; obtain rfl := hw.symm)
    | (go_at_call 27; refine (planSize_any _).mono ?_; rintro e w' ⟨rfl, hw⟩; obtain rfl := hw.symm)
    | go_in)
  go_ret
  exact ⟨rfl, rfl⟩
/-- A view that New has made. -/
def newLay (mb G : Nat) : VLay := ⟨G, mb, G + 1, G + 1 + 1, G + 1 + 1 + 1, none, none⟩
set_option maxHeartbeats 1000000 in
theorem vnew_yes (L : Lay) (M : Mem) (w : World) (h : MemIs w L M) (hn : M.sure.length = 2824) : Calls Tryz.prog 8 #[.pointer (some ⟨L.mb, 0, none⟩)] w fun e w' => e = .returned (.pointer (some ⟨w.heap.size, 0, none⟩)) ∧ ViewIs w' (newLay L.mb w.heap.size) Vw.new 0 ∧ Below w.heap.size w w' := by
  have HS : Hid (Calls Tryz.prog 26 #[.pointer (some ⟨L.mb, 0, none⟩)] w fun e w' => e = .returned (.int .i64 2824) ∧ w' = w) := by
    have := size_any L M w h
    rw [hn] at this
    exact this
  clear hn h
  have ho : (w.alloc (.cells #[.pointer (some ⟨L.mb, 0, none⟩), .map none, .map none, .map none, .map none, .map none] 62)).heap[w.heap.size]? = some (.cells #[.pointer (some ⟨L.mb, 0, none⟩), .map none, .map none, .map none, .map none, .map none] 62 (0, 0)) := heap_alloc_new _ _
  have HF : Hid _ := forget_any w.heap.size _ _ _ _ _ _ _ ho
  have hb : Below w.heap.size w (w.alloc (.cells #[.pointer (some ⟨L.mb, 0, none⟩), .map none, .map none, .map none, .map none, .map none] 62)) := (Below.refl _ _).alloc (Nat.le_refl _) _
  have HB : Hid _ := hb
  clear ho hb
  go_enter Tryz.func8, Tryz.ntmps8
  go_wp2_with fail
  refine Calls.mono (Hid.out HS) ?_
  rintro e w' ⟨rfl, hw⟩
  obtain rfl := hw.symm
  go_wp2_with fail
  refine (planSize_any _).mono ?_
  rintro e w' ⟨rfl, hw⟩
  obtain rfl := hw.symm
  go_wp2_with fail
  refine Calls.mono (Hid.out HF) ?_
  rintro e w2 ⟨rfl, o1, m1, m2, m3, hO⟩
  go_wp2
  go_ret
  have hs : (w.alloc (.cells #[.pointer (some ⟨L.mb, 0, none⟩), .map none, .map none, .map none, .map none, .map none] 62)).heap.size = w.heap.size + 1 := by simp
  rw [hs] at o1 m1 m2 m3
  refine ⟨rfl, ⟨o1, m1, m2, m3, fun _ => rfl, fun _ => rfl, ⟨by simp [newLay], by simp [newLay], by simp [newLay]⟩, fun _ e => by simp [newLay] at e, fun _ e => by simp [newLay] at e, fun _ _ h => by simp [Vw.new] at h, fun _ h => by simp [Vw.new] at h, fun _ h => by simp [Vw.new] at h⟩, ?_⟩
  exact HB.out.trans (hO.below (by simp) (by simp))

end Go.Proofs.YtomlbifplliakaaGreat
