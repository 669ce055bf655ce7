/- Plain mathematics of sorted lists: ranks, the least and the greatest, the same numbers. -/
import Derived.Test.YtnebmbabfghlaaaDoorSort
namespace Go.Proofs.YtnebmbabfghlaaaDoor
open Go.RowKit

theorem nth_eq (xs : List Nat) (i : Nat) (h : i < xs.length) : nth xs i = xs[i] := by simp [nth, List.getD, h]
theorem nth_map (f : Nat → Nat) (n i : Nat) (h : i < n) : nth ((List.range n).map f) i = f i := by simp [nth, h]

/-- K never falls. -/
def Up (ys : List Nat) : Prop := ∀ i j, i ≤ j → j < ys.length → K (nth ys i) ≤ K (nth ys j)
theorem SortOf.up {w w' : World} {a : Option Addr} {n : Nat} {xs ys : List Nat} (h : SortOf w w' a n xs ys) : Up ys := by
  obtain ⟨t, hs, rfl⟩ := h.t
  intro i j h1 h2
  simp at h2
  rw [nth_map _ _ _ (by omega), nth_map _ _ _ h2]
  exact hs.s.le (Nat.zero_le _) h1 h2

theorem rank_of (ys : List Nat) (x f : Nat) (hf : f ≤ ys.length) (h1 : ∀ p, p < f → K (nth ys p) < K x) (h2 : ∀ p, f ≤ p → p < ys.length → ¬ K (nth ys p) < K x) : rankN ys x = f := by
  unfold rankN
  rw [← List.take_append_drop f ys, List.countP_append]
  have e1 : List.countP (fun y => ah y x) (ys.take f) = f := by
    rw [List.countP_eq_length.2]
    · rw [List.length_take]; omega
    · intro y hy
      obtain ⟨i, hi, rfl⟩ := List.getElem_of_mem hy
      rw [List.length_take] at hi
      have := h1 i (by omega)
      rw [nth_eq ys i (by omega)] at this
      simpa [ah] using this
  have e2 : List.countP (fun y => ah y x) (ys.drop f) = 0 := by
    rw [List.countP_eq_zero]
    intro y hy
    obtain ⟨i, hi, rfl⟩ := List.getElem_of_mem hy
    rw [List.length_drop] at hi
    have := h2 (f + i) (by omega) (by omega)
    rw [nth_eq ys (f + i) (by omega)] at this
    simpa [ah] using this
  rw [e1, e2]; rfl
theorem rank_mono (ys : List Nat) (x y : Nat) (h : K x ≤ K y) : rankN ys x ≤ rankN ys y := by
  unfold rankN
  apply List.countP_mono_left
  intro z _ hz
  simp only [ah, decide_eq_true_eq] at hz ⊢
  omega
/-- The rank of what stands at i, f being the first alike. -/
theorem rank_first (ys : List Nat) (hu : Up ys) (i f : Nat) (hi : i < ys.length) (hf : f ≤ i) (ha : K (nth ys f) = K (nth ys i)) (hb : f = 0 ∨ K (nth ys (f - 1)) ≠ K (nth ys i)) : rankN ys (nth ys i) = f := by
  refine rank_of ys _ f (by omega) (fun p hp => ?_) (fun p h1 h2 => ?_)
  · have h1 := hu p (f - 1) (by omega) (by omega)
    have h2 := hu (f - 1) i (by omega) hi
    omega
  · have := hu f p h1 h2
    omega
theorem cmp_eq0 (x y : Nat) : (cmpI x y == 0) = decide (K x = K y) := by
  unfold cmpI ah
  rcases Int.lt_trichotomy (K x) (K y) with h | h | h
  · have : ¬ K x = K y := by omega
    simp [h, this]
  · have h1 : ¬ K x < K y := by omega
    have h2 : ¬ K y < K x := by omega
    simp [h]
  · have h1 : ¬ K x < K y := by omega
    have h2 : ¬ K x = K y := by omega
    simp [h, h1, h2]
theorem cmp_gt0 (x y : Nat) : cmpI x y > 0 ↔ K y < K x := by
  unfold cmpI ah
  rcases Int.lt_trichotomy (K x) (K y) with h | h | h
  · have : ¬ K y < K x := by omega
    simp [h, this]
  · have h1 : ¬ K x < K y := by omega
    have h2 : ¬ K y < K x := by omega
    simp [h1, h2]
  · have h1 : ¬ K x < K y := by omega
    simp [h, h1]
theorem clamp_wrong (x lo hi : Nat) (h : K hi < K lo) : clampF x lo hi = lo := by
  unfold clampF ah; simp [h]
theorem clamp_in (x lo hi : Nat) (h : K lo ≤ K hi) : K lo ≤ K (clampF x lo hi) ∧ K (clampF x lo hi) ≤ K hi := by
  unfold clampF ah
  have h0 : ¬ K hi < K lo := by omega
  by_cases h1 : K x < K lo
  · simp [h0, h1, h]
  · by_cases h2 : K hi < K x
    · simp [h0, h1, h2, h]
    · simp only [h0, h1, h2, decide_false, Bool.or_false, Bool.false_eq_true, if_false]; omega
theorem same_refl (x : Nat) : sameB x x = true := by simp [sameB]
end Go.Proofs.YtnebmbabfghlaaaDoor
