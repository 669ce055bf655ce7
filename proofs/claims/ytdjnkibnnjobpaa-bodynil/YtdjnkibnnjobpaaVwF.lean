/- Contracts of the view's forget, Reset, setOf, Avoid and New. -/
import Derived.Test.YtdjnkibnnjobpaaVwE
namespace Go.Proofs.Ytdjnkibnnjobpaa
open Go.RowKit Go.Maps Go.ChangeMaps

set_option maxHeartbeats 1000000 in
theorem forget_any (vb : Nat) (x0 x1 x2 x3 x4 x5 : Value) (w : World) (h : w.heap[vb]? = some (.cells #[x0, x1, x2, x3, x4, x5] 68 (0, 0))) :
    Calls Try.prog 26 #[.pointer (some ⟨vb, 0, none⟩)] w fun e w' => e = .returned (.tuple #[]) ∧ w'.heap[vb]? = some (.cells #[x0, .map (some w.heap.size), .map (some (w.heap.size + 1)), .map (some (w.heap.size + 1 + 1)), x4, x5] 68 (0, 0))
      ∧ MapIs w' w.heap.size 0 (fun _ => none) ∧ SetIs w' (w.heap.size + 1) 0 (fun _ => false) ∧ SetIs w' (w.heap.size + 1 + 1) 0 (fun _ => false) ∧ Only [vb] w w' := by
  have hlt : vb < w.heap.size := (Array.getElem?_eq_some_iff.1 h).1
  obtain ⟨W, hW⟩ : ∃ W, ((w.alloc (.map #[] 0)).alloc (.map #[] 0)).alloc (.map #[] 0) = W := ⟨_, rfl⟩
  have h3 : W.heap[vb]? = some (.cells #[x0, x1, x2, x3, x4, x5] 68 (0, 0)) := by
    rw [← hW, Below.heap_alloc _ _ _ (by simp; omega), Below.heap_alloc _ _ _ (by simp; omega), Below.heap_alloc _ _ _ hlt]
    exact h
  have m1 : MapIs W w.heap.size 0 (fun _ => none) := (madeMap w).of_block (by rw [← hW, Below.heap_alloc _ _ _ (by simp; omega), Below.heap_alloc _ _ _ (by simp)])
  have m2 : SetIs W (w.heap.size + 1) 0 (fun _ => false) := by
    have h1 : (w.alloc (.map #[] 0)).heap.size = w.heap.size + 1 := by simp
    have h2 := smade (w.alloc (.map #[] 0))
    rw [h1] at h2
    exact h2.of_block (by rw [← hW, Below.heap_alloc _ _ _ (by simp)])
  have m3 : SetIs W (w.heap.size + 1 + 1) 0 (fun _ => false) := by
    have h1 : ((w.alloc (.map #[] 0)).alloc (.map #[] 0)).heap.size = w.heap.size + 1 + 1 := by simp
    have h2 := smade ((w.alloc (.map #[] 0)).alloc (.map #[] 0))
    rw [h1] at h2
    rw [← hW]
    exact h2
  have hO : Only [vb] w W := by rw [← hW]; exact (((Only.refl _ _).alloc _).alloc _).alloc _
  have fz : ∀ i, W.frozen? ⟨vb, i, none⟩ = false := fun i => frozen_of_row W vb i _ _ h3
  have c1 : W.cell? ⟨vb, 1, none⟩ = some x1 := by rw [cell_of_row W vb 1 _ _ _ h3]; rfl
  have c2 : W.cell? ⟨vb, 2, none⟩ = some x2 := by rw [cell_of_row W vb 2 _ _ _ h3]; rfl
  have c3 : W.cell? ⟨vb, 3, none⟩ = some x3 := by rw [cell_of_row W vb 3 _ _ _ h3]; rfl
  have fz1 := fz 1
  have fz2 := fz 2
  have fz3 := fz 3
  rw [← hW] at fz1 fz2 fz3 c1 c2 c3
  clear fz
  have hmm := @run_makeMap Try.prog
  have g1 := heap_setCell_same W vb 1 _ _ (Value.map (some w.heap.size)) h3
  have g2 := heap_setCell_same _ vb 2 _ _ (Value.map (some (w.heap.size + 1))) g1
  have g3 := heap_setCell_same _ vb 3 _ _ (Value.map (some (w.heap.size + 1 + 1))) g2
  have HG3 : Hid _ := g3
  clear g1 g2 g3
  have HM1 : Hid (MapIs W w.heap.size 0 (fun _ => none)) := m1
  have HM2 : Hid (SetIs W (w.heap.size + 1) 0 (fun _ => false)) := m2
  have HM3 : Hid (SetIs W (w.heap.size + 1 + 1) 0 (fun _ => false)) := m3
  have HO : Hid (Only [vb] w W) := hO
  have HW : Hid (((w.alloc (.map #[] 0)).alloc (.map #[] 0)).alloc (.map #[] 0) = W) := hW
  clear m1 m2 m3 hO hW h3 h
  go_enter Try.func26, Try.ntmps26
  go_wp2
  rw [HW.out]
  go_end0
  have hk : ∀ j, j ≠ vb → ∀ u1 u2 u3 : Value, (((W.setCell ⟨vb, 1, none⟩ u1).setCell ⟨vb, 2, none⟩ u2).setCell ⟨vb, 3, none⟩ u3).heap[j]? = W.heap[j]? := fun j hj u1 u2 u3 => by
    rw [Below.heap_setCell _ _ _ _ hj, Below.heap_setCell _ _ _ _ hj, Below.heap_setCell _ _ _ _ hj]
  exact ⟨rfl, HG3.out, HM1.out.of_block (hk _ (by omega) _ _ _), HM2.out.of_block (hk _ (by omega) _ _ _), HM3.out.of_block (hk _ (by omega) _ _ _),
    ((HO.out.setCell (p := ⟨vb, 1, none⟩) (by simp) _).setCell (p := ⟨vb, 2, none⟩) (by simp) _).setCell (p := ⟨vb, 3, none⟩) (by simp) _⟩

/-- Numbers at a slice's address. -/
def IntsAt (w : World) (a : Option Addr) (n : Nat) (f : Nat → Int) : Prop := n = 0 ∨ ∃ b o, a = some ⟨b, o, none⟩ ∧ b < w.heap.size ∧ ∀ i, i < n → w.cell? ⟨b, o + i, none⟩ = some (.int .i64 (f i))
theorem IntsAt.later {w w' : World} {a : Option Addr} {n : Nat} {f : Nat → Int} (h : IntsAt w a n f) {B : Nat} (hB : w.heap.size ≤ B) (hb : Below B w w') : IntsAt w' a n f := by
  rcases h with h | ⟨b, o, e, hlt, hc⟩
  · exact .inl h
  · exact .inr ⟨b, o, e, by have := hb.size; omega, fun i hi => (hb.cell (p := ⟨b, o + i, none⟩) (by show b < B; omega)).trans (hc i hi)⟩
def namedI (f : Nat → Int) (k : Nat) : Int → Bool := fun j => decide (∃ i, i < k ∧ f i = j)
theorem namedI_zero (f : Nat → Int) : namedI f 0 = fun _ => false := by
  funext j
  unfold namedI
  rw [decide_eq_false_iff_not]
  rintro ⟨i, hi, _⟩
  omega
theorem namedI_succ (f : Nat → Int) (k : Nat) : addB (namedI f k) (f k) = namedI f (k + 1) := by
  funext j
  unfold namedI addB
  rw [Bool.eq_iff_iff]
  simp only [Bool.or_eq_true, decide_eq_true_eq]
  constructor
  · rintro (e | ⟨i, hi, e⟩)
    · exact ⟨k, by omega, e.symm⟩
    · exact ⟨i, by omega, e⟩
  · rintro ⟨i, hi, e⟩
    by_cases h : i = k
    · subst h; exact .inl e.symm
    · exact .inr ⟨i, by omega, e⟩

/-- What it is to leave alone. -/
def VLay.shun (V : VLay) (g1 g2 : Nat) : VLay := ⟨V.vb, V.mb, V.ob, V.sb, V.nb, some g1, some g2⟩
theorem vnew_nil (w : World) : Calls Try.prog 8 #[.pointer none] w fun e w' => e = .returned (.pointer none) ∧ w' = w := by
  go_enter Try.func8, Try.ntmps8
  go_wp2
  go_ret
  exact ⟨rfl, rfl⟩
theorem vnew_small (L : Lay) (M : Mem) (w : World) (h : MemIs w L M) (hn : M.sure.length ≠ 2824) : Calls Try.prog 8 #[.pointer (some ⟨L.mb, 0, none⟩)] w fun e w' => e = .returned (.pointer none) ∧ w' = w := by
  have h1 : ((M.sure.length : Int) == 2824) = false := by simp; omega
  have h2 : ((M.sure.length : Int) != 2824) = true := by simp; omega
  have H : Hid (MemIs w L M) := h
  clear h hn
  obtain ⟨X, hX⟩ : ∃ X : Nat, M.sure.length = X := ⟨_, rfl⟩
  have HS : Hid (Calls Try.prog 24 #[.pointer (some ⟨L.mb, 0, none⟩)] w fun e w' => e = .returned (.int .i64 M.sure.length) ∧ w' = w) := size_any L M w H.out
  rw [hX] at HS h1 h2
  clear hX
  go_enter Try.func8, Try.ntmps8
  go_wp2_with (first
    | (go_at_call 24; refine Calls.mono (Hid.out HS) ?_; rintro e w' ⟨rfl, hw⟩; obtain rfl := hw.symm)
    | (go_at_call 25; refine (planSize_any _).mono ?_; rintro e w' ⟨rfl, hw⟩; obtain rfl := hw.symm)
    | go_in)
  go_ret
  exact ⟨rfl, rfl⟩
/-- A view that New has made. -/
def newLay (mb G : Nat) : VLay := ⟨G, mb, G + 1, G + 1 + 1, G + 1 + 1 + 1, none, none⟩
set_option maxHeartbeats 1000000 in
theorem vnew_yes (L : Lay) (M : Mem) (w : World) (h : MemIs w L M) (hn : M.sure.length = 2824) : Calls Try.prog 8 #[.pointer (some ⟨L.mb, 0, none⟩)] w fun e w' => e = .returned (.pointer (some ⟨w.heap.size, 0, none⟩)) ∧ ViewIs w' (newLay L.mb w.heap.size) Vw.new 0 ∧ Below w.heap.size w w' := by
  have HS : Hid (Calls Try.prog 24 #[.pointer (some ⟨L.mb, 0, none⟩)] w fun e w' => e = .returned (.int .i64 2824) ∧ w' = w) := by
    have := size_any L M w h
    rw [hn] at this
    exact this
  clear hn h
  have ho : (w.alloc (.cells #[.pointer (some ⟨L.mb, 0, none⟩), .map none, .map none, .map none, .map none, .map none] 68)).heap[w.heap.size]? = some (.cells #[.pointer (some ⟨L.mb, 0, none⟩), .map none, .map none, .map none, .map none, .map none] 68 (0, 0)) := heap_alloc_new _ _
  have HF : Hid _ := forget_any w.heap.size _ _ _ _ _ _ _ ho
  have hb : Below w.heap.size w (w.alloc (.cells #[.pointer (some ⟨L.mb, 0, none⟩), .map none, .map none, .map none, .map none, .map none] 68)) := (Below.refl _ _).alloc (Nat.le_refl _) _
  have HB : Hid _ := hb
  clear ho hb
  go_enter Try.func8, Try.ntmps8
  go_wp2_with fail
  refine Calls.mono (Hid.out HS) ?_
  rintro e w' ⟨rfl, hw⟩
  obtain rfl := hw.symm
  go_wp2_with fail
  refine (planSize_any _).mono ?_
  rintro e w' ⟨rfl, hw⟩
  obtain rfl := hw.symm
  go_wp2_with fail
  refine Calls.mono (Hid.out HF) ?_
  rintro e w2 ⟨rfl, o1, m1, m2, m3, hO⟩
  go_wp2
  go_ret
  have hs : (w.alloc (.cells #[.pointer (some ⟨L.mb, 0, none⟩), .map none, .map none, .map none, .map none, .map none] 68)).heap.size = w.heap.size + 1 := by simp
  rw [hs] at o1 m1 m2 m3
  refine ⟨rfl, ⟨o1, m1, m2, m3, fun _ => rfl, fun _ => rfl, ⟨by simp [newLay], by simp [newLay], by simp [newLay]⟩, fun _ e => by simp [newLay] at e, fun _ e => by simp [newLay] at e, fun _ _ h => by simp [Vw.new] at h, fun _ h => by simp [Vw.new] at h, fun _ h => by simp [Vw.new] at h⟩, ?_⟩
  exact HB.out.trans (hO.below (by simp) (by simp))

end Go.Proofs.Ytdjnkibnnjobpaa
