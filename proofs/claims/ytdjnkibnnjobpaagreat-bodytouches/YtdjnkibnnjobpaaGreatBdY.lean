/- How many blocks a file has. -/
import Derived.Test.YtdjnkibnnjobpaaGreatBdX
import Derived.Maps.AppendAt
namespace Go.Proofs.YtdjnkibnnjobpaaGreat
open Go.RowKit Go.Maps Go.ChangeMaps

/-- A file's row of blocks: its map's, and More. -/
def rowF (mp : Nat → Int) (mr : Int) : Nat → Int := fun i => if i < 21 then mp i else mr
/-- How many of the first j are blocks. -/
def cntF (f : Nat → Int) (j : Nat) : Nat := (((List.range j).map f).filter fun x => decide (0 ≤ x)).length
theorem cntF_le (f : Nat → Int) (j : Nat) : cntF f j ≤ j := by
  unfold cntF
  refine Nat.le_trans (List.length_filter_le _ _) ?_
  simp
theorem cntF_yes {f : Nat → Int} {j : Nat} (h : 0 ≤ f j) : cntF f (j + 1) = cntF f j + 1 := by
  unfold cntF
  rw [List.range_succ, List.map_append, List.filter_append, List.length_append]
  simp [h]
theorem cntF_no {f : Nat → Int} {j : Nat} (h : f j < 0) : cntF f (j + 1) = cntF f j := by
  unfold cntF
  rw [List.range_succ, List.map_append, List.filter_append, List.length_append]
  simp; omega
theorem cntF_own (mp : Nat → Int) (mr : Int) (n : Nat) (h : mr = -1 ∧ n = 21 ∨ 0 ≤ mr ∧ n = 22) : cntF (rowF mp mr) n = (ownL mp mr).length := by
  have e : (List.range 21).map (rowF mp mr) = (List.range 21).map mp := List.map_congr_left fun i hi => by
    have := List.mem_range.1 hi
    unfold rowF; rw [if_pos this]
  unfold ownL
  rw [List.filter_append, List.length_append]
  rcases h with ⟨rfl, rfl⟩ | ⟨h, rfl⟩
  · unfold cntF
    rw [e]
    simp
  · rw [cntF_yes (by unfold rowF; rw [if_neg (by omega)]; exact h)]
    unfold cntF
    rw [e]
    simp [h]
theorem row_inj {W : Int → Int} {node : Int} {mp : Nat → Int} {mr : Int} (h : Fil W node mp mr) {j n : Nat} (hn : n ≤ 22) (hj : j < n) (h0 : 0 ≤ rowF mp mr j) : namedI (rowF mp mr) j (rowF mp mr j) = false := by
  unfold namedI
  rw [decide_eq_false_iff_not]
  rintro ⟨i, hi, e⟩
  unfold rowF at e h0
  rw [if_pos (by omega)] at e
  by_cases h21 : j < 21
  · rw [if_pos h21] at e h0
    have := h.inj i j (by omega) h21 e (by omega)
    omega
  · rw [if_neg h21] at e h0
    exact (h.mown (by omega)).2 i (by omega) e
theorem row_own {W : Int → Int} {node : Int} {mp : Nat → Int} {mr : Int} (h : Fil W node mp mr) {j : Nat} (h0 : 0 ≤ rowF mp mr j) : rowF mp mr j < 96 ∧ W (200 + rowF mp mr j) = node + 1 := by
  unfold rowF at h0 ⊢
  by_cases h21 : j < 21
  · rw [if_pos h21] at h0 ⊢
    exact ⟨(h.rng j h21).2, h.own j h21 (by omega)⟩
  · rw [if_neg h21] at h0 ⊢
    exact ⟨h.mrng.2, (h.mown (by omega)).1⟩
theorem map_row {w : World} {B G : Nat} {mp : Nat → Int} (h : IRow w G 21 mp) (hB : B ≤ G) : w.ownsRow B 3 1 (.slice (some ⟨G, 0, none⟩) 21 21) 21 (rowV mp 21) :=
  ⟨by rw [rowV_len], .inr ⟨G, 21, (rowV mp 21).toArray, rfl, hB, h, Nat.le_refl _, by decide, by rw [List.size_toArray, rowV_len], by simp [List.take_of_length_le, rowV_len]⟩⟩
theorem row_ints {w : World} {B : Nat} {v : Value} {mp : Nat → Int} {mr : Int} (h : w.ownsRow B 3 1 v 22 (rowV mp 21 ++ [.int .i64 mr])) : ∃ G c, v = .slice (some ⟨G, 0, none⟩) 22 c ∧ B ≤ G ∧ 22 ≤ c ∧ c ≤ maxLen ∧ IntsAt w (some ⟨G, 0, none⟩) 22 (rowF mp mr) := by
  have h' := h
  obtain ⟨h0, h1⟩ := h
  rcases h1 with ⟨_, h2⟩ | ⟨g, cap, cur, rfl, h2, h3, h4, h5, _⟩
  · omega
  · refine ⟨g, cap, rfl, h2, h4, h5, .inr ⟨g, 0, rfl, (Array.getElem?_eq_some_iff.1 h3).1, fun i hi => ?_⟩⟩
    rw [Nat.zero_add, h'.cellAt _ (by omega)]
    unfold rowF
    by_cases h21 : i < 21
    · rw [if_pos h21, List.getElem?_append_left (by rw [rowV_len]; exact h21)]
      exact rowV_at mp 21 i h21
    · obtain rfl : i = 21 := by omega
      rw [if_neg (by omega), List.getElem?_append_right (by rw [rowV_len]; omega), rowV_len]
      rfl

end Go.Proofs.YtdjnkibnnjobpaaGreat
