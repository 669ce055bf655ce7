/- A row of 2824 words in memory, told by a plain function: making it, copying into it, storing one word; nothing else changes. -/
import Derived.Test.YtdjnkibnnjobpaaPlA
import Derived.Laws.CopyOwn
import Derived.OwnWalk
namespace Go.Proofs.Ytdjnkibnnjobpaa
open Go.RowKit Go.Maps Go.ChangeMaps

def rowI (f : Nat → Int) (n : Nat) : List Value := (List.range n).map fun j => Value.int .u64 (f j)

theorem rowI_len (f : Nat → Int) (n : Nat) : (rowI f n).length = n := by simp [rowI]

theorem rowI_at (f : Nat → Int) (n j : Nat) (h : j < n) : (rowI f n)[j]? = some (.int .u64 (f j)) := by simp [rowI, h]

theorem rowI_out (f : Nat → Int) (n j : Nat) (h : ¬ j < n) : (rowI f n)[j]? = none := List.getElem?_eq_none (by rw [rowI_len]; omega)

theorem rowI_ext {l : List Value} {f : Nat → Int} {n : Nat} (hl : l.length = n) (h : ∀ j, j < n → l[j]? = some (.int .u64 (f j))) : l = rowI f n := by
  apply List.ext_getElem?
  intro j
  by_cases hj : j < n
  · rw [h j hj, rowI_at f n j hj]
  · rw [rowI_out f n j hj]; exact List.getElem?_eq_none (by omega)

theorem rowI_one (f : Nat → Int) (n : Nat) : ∀ v ∈ rowI f n, v.oneCell' = true := by
  intro v hv
  obtain ⟨j, _, rfl⟩ := List.mem_map.1 hv
  rfl

/-- The block g is a row of 2824 words, the j-th of them f j. -/
def RowIs (w : World) (g : Nat) (f : Nat → Int) : Prop := w.heap[g]? = some (.cells (rowI f 2824).toArray 23 (0, 0))

theorem RowIs.cell {w : World} {g : Nat} {f : Nat → Int} (h : RowIs w g f) (j : Nat) (hj : j < 2824) : w.cell? ⟨g, j, none⟩ = some (.int .u64 (f j)) := by
  rw [cell_of_row w g j _ _ _ h]
  simpa using rowI_at f 2824 j hj

theorem RowIs.frozen {w : World} {g : Nat} {f : Nat → Int} (h : RowIs w g f) (j : Nat) : w.frozen? ⟨g, j, none⟩ = false := frozen_of_row w g j _ _ h

theorem RowIs.lt {w : World} {g : Nat} {f : Nat → Int} (h : RowIs w g f) : g < w.heap.size := by
  by_cases hg : g < w.heap.size
  · exact hg
  · have e : w.heap[g]? = none := Array.getElem?_eq_none (by omega)
    unfold RowIs at h
    rw [e] at h
    cases h

theorem RowIs.later {w w' : World} {g : Nat} {f : Nat → Int} (h : RowIs w g f) {B : Nat} (hB : w.heap.size ≤ B) (hb : Below B w w') : RowIs w' g f := by
  have := h.lt
  show w'.heap[g]? = _
  rw [hb.block g (by omega)]; exact h

theorem RowIs.uAt {w : World} {g : Nat} {f : Nat → Int} (h : RowIs w g f) (n : Nat) (hn : n ≤ 2824) : UAt w (some ⟨g, 0, none⟩) n f :=
  .inr ⟨g, 0, rfl, h.lt, fun i hi => by rw [Nat.zero_add]; exact h.cell i (by omega)⟩

def updN (f : Nat → Int) (q : Nat) (v : Int) : Nat → Int := fun j => if j = q then v else f j

theorem set_rowI (f : Nat → Int) (n q : Nat) (v : Int) : (rowI f n).toArray.setIfInBounds q (.int .u64 v) = (rowI (updN f q v) n).toArray := by
  rw [List.setIfInBounds_toArray]
  congr 1
  apply rowI_ext (by rw [List.length_set, rowI_len])
  intro j hj
  rw [List.getElem?_set]
  unfold updN
  by_cases e : q = j
  · subst e
    rw [if_pos rfl, rowI_len, if_pos hj, if_pos rfl]
  · rw [if_neg e, if_neg (fun e' => e e'.symm), rowI_at f n j hj]

theorem RowIs.set {w : World} {g : Nat} {f : Nat → Int} (h : RowIs w g f) (q : Nat) (v : Int) : RowIs (w.setCell ⟨g, q, none⟩ (.int .u64 v)) g (updN f q v) := by
  show (w.setCell ⟨g, q, none⟩ (.int .u64 v)).heap[g]? = _
  rw [heap_setCell_same w g q _ _ _ h, set_rowI]

/-- What lies there behind a copy of m words to the place off. -/
def over (f h : Nat → Int) (off m : Nat) : Nat → Int := fun j => if off ≤ j ∧ j < off + m then h (j - off) else f j

theorem splice_rowI (f h : Nat → Int) (n off m : Nat) (hn : off + m ≤ n) : splice (rowI f n) off (rowI h m) = rowI (over f h off m) n := by
  apply rowI_ext (by rw [length_splice _ _ _ (by rw [rowI_len, rowI_len]; exact hn), rowI_len])
  intro j hj
  unfold splice over
  rw [rowI_len]
  by_cases h1 : j < off
  · rw [List.getElem?_append_left (by rw [List.length_take, rowI_len]; omega), List.getElem?_take, if_pos h1, rowI_at f n j hj, if_neg (by omega)]
  · rw [List.getElem?_append_right (by rw [List.length_take, rowI_len]; omega), List.length_take, rowI_len, Nat.min_eq_left (by omega)]
    by_cases h2 : j < off + m
    · rw [List.getElem?_append_left (by rw [rowI_len]; omega), rowI_at h m (j - off) (by omega), if_pos ⟨by omega, h2⟩]
    · rw [List.getElem?_append_right (by rw [rowI_len]; omega), rowI_len, List.getElem?_drop, if_neg (by omega)]
      have e : off + m + (j - off - m) = j := by omega
      rw [e, rowI_at f n j hj]

theorem splice_rows (f h : Nat → Int) (n off m : Nat) (hn : off + m ≤ n) : (rowI f n).toArray.toList.take off ++ rowI h m ++ (rowI f n).toArray.toList.drop (off + (rowI h m).length) = rowI (over f h off m) n := by
  rw [List.append_assoc]
  exact splice_rowI f h n off m hn

theorem Try.info22r : (Try.prog.info? 23).map (fun i => (i.zero, i.size, i.bytes)) = some (some (.int .u64 0), 1, 8) := by kernel_rfl

theorem zeros_rowI (n : Nat) : List.replicate n (Value.int .u64 0) = rowI (fun _ => 0) n := rowI_ext (by simp) fun j hj => by simp [hj]

theorem made_row {w : World} {B g n : Nat} (h : w.ownsRow B 23 1 (.slice (some ⟨g, 0, none⟩) n n) n (madeCells #[Value.int .u64 0] n).toList) : w.heap[g]? = some (.cells (rowI (fun _ => 0) n).toArray 23 (0, 0)) := by
  rcases h.2 with ⟨h', _⟩ | ⟨g', cap, cur, h', _, hg, _, _, hcs, htake⟩
  · simp at h'
  · simp only [Value.slice.injEq, Option.some.injEq, Addr.mk.injEq, and_true, true_and] at h'
    obtain ⟨rfl, rfl⟩ := h'
    have e : cur.toList = cur.toList.take (n * 1) := (List.take_of_length_le (by rw [Array.length_toList, hcs]; omega)).symm
    have e3 : cur = (rowI (fun _ => 0) n).toArray := by
      rw [← Array.toArray_toList (xs := cur), e, htake, toList_madeCells_one, zeros_rowI]
    rw [hg, e3]

theorem size22 : (Try.prog.info? 23).map (·.size) = some 1 := by kernel_rfl

/-- A copy into the row, from whatever slice of words: as many go over as fit. -/
theorem run_copy (w : World) (g off : Nat) (f h : Nat → Int) (sp : Option Addr) (sLen sCap d m : Nat) (hR : RowIs w g f) (hU : UAt w sp sLen h) (hd : off + d = 2824) (hm : m = Nat.min sLen d) (B : Nat) (w0 : World) (hb : Below B w0 w) (hB : B ≤ g) :
    ∃ w', (Builtin.copy_ #[30, 30] 3 #[.slice (some ⟨g, off, none⟩) d d, .slice sp sLen sCap]).run Try.prog w = .ok (.int .i64 m) w' ∧ Hid (RowIs w' g (over f h off m)) ∧ Below B w0 w' := by
  by_cases h0 : m = 0
  · have hr := run_copy_none (P := Try.prog) w 30 30 3 23 (some ⟨g, off, none⟩) sp d d sLen sCap Try.underlying30 size22 (by omega)
    refine ⟨w, ?_, ?_, hb⟩
    · rw [hr, h0]; rfl
    · have e : over f h off m = f := by
        funext j
        unfold over
        rw [if_neg (by omega)]
      rw [e]; exact hR
  · have hml : m ≤ sLen := by rw [hm]; exact Nat.min_le_left _ _
    have hmd : m ≤ d := by rw [hm]; exact Nat.min_le_right _ _
    obtain ⟨b, o, rfl, hlt, hc⟩ := hU.resolve_left (by omega)
    have hr := run_copy_row (P := Try.prog) w 30 30 3 23 g off d d ⟨b, o, none⟩ sLen sCap (rowI f 2824).toArray 23 (rowI h m) Try.underlying30 size22 hR (by rw [rowI_len, hm]) ?src ?fit (rowI_one _ _)
    case src =>
      intro j v hj
      by_cases hjm : j < m
      · rw [rowI_at h m j hjm] at hj
        cases hj
        rw [Addr.add_lit]
        exact hc j (by omega)
      · rw [rowI_out h m j hjm] at hj
        cases hj
    case fit => rw [rowI_len, List.size_toArray, rowI_len]; omega
    have e := splice_rows f h 2824 off m (by omega)
    rw [e, rowI_len] at hr
    exact ⟨_, hr, setRow_heap w g _ _ _ _ hR, below_setRow hb hB _⟩

end Go.Proofs.Ytdjnkibnnjobpaa
