/- Plain mathematics of what is sorted: the same numbers, sorted again it stays, the least and the greatest. -/
import Derived.Test.YtnebmbabfghlaaaDoorRankMath
namespace Go.Proofs.YtnebmbabfghlaaaDoor
open Go.RowKit

theorem list_nth (xs : List Nat) : (List.range xs.length).map (nth xs) = xs := by
  apply List.ext_getElem
  · simp
  · intro i h1 h2
    simp at h1
    simp [nth, List.getD, h1]
theorem SortOf.perm {w w' : World} {a : Option Addr} {n : Nat} {xs ys : List Nat} (h : SortOf w w' a n xs ys) (hn : xs.length = n) : List.Perm ys xs := by
  obtain ⟨t, hs, rfl⟩ := h.t
  have e : ((List.range n).map fun i => nth xs (t i)) = ((List.range n).map t).map (nth xs) := by rw [List.map_map]; rfl
  rw [e]
  conv => rhs; rw [← list_nth xs, hn]
  apply List.Perm.map
  rw [List.perm_ext_iff_of_nodup]
  · intro x
    simp only [List.mem_map, List.mem_range]
    constructor
    · rintro ⟨i, hi, rfl⟩; exact hs.o i hi
    · intro hx; exact hs.c x hx
  · unfold List.Nodup
    rw [List.pairwise_map]
    rw [List.pairwise_iff_getElem]
    intro i j h1 h2 h3
    simp at h1 h2
    simp
    intro he
    have := hs.s i j (Nat.zero_le _) h3 h2
    rw [he] at this
    exact this.irrefl
  · exact List.nodup_range

theorem inc_id (t : Nat → Nat) (n : Nat) (h1 : ∀ i j, i < j → j < n → t i < t j) (h2 : ∀ i, i < n → t i < n) : ∀ i, i < n → t i = i := by
  have lo : ∀ i, i < n → i ≤ t i := by
    intro i
    induction i with
    | zero => intro _; omega
    | succ i ih => intro hi; have := ih (by omega); have := h1 i (i + 1) (by omega) hi; omega
  have hi : ∀ d i, i + d + 1 = n → t i ≤ i := by
    intro d
    induction d with
    | zero => intro i hi; have := h2 i (by omega); omega
    | succ d ih => intro i hi; have := ih (i + 1) (by omega); have := h1 i (i + 1) (by omega) (by omega); omega
  intro i hin
  have := lo i hin
  have := hi (n - i - 1) i (by omega)
  omega
/-- What is sorted, sorted again, stays. -/
theorem SortOf.again {w w' : World} {a : Option Addr} {n : Nat} {ys zs : List Nat} (h : SortOf w w' a n ys zs) (hn : ys.length = n) (hu : Up ys) : zs = ys := by
  obtain ⟨t, hs, rfl⟩ := h.t
  have key : ∀ i, i < n → t i = i := inc_id t n (fun i j h1 h2 => by
    have hl := hs.s i j (Nat.zero_le _) h1 h2
    have oi := hs.o i (by omega)
    have oj := hs.o j h2
    rcases Nat.lt_or_ge (t i) (t j) with c | c
    · exact c
    · have := hu (t j) (t i) c (by omega)
      unfold lt key at hl
      omega) hs.o
  conv => rhs; rw [← list_nth ys, hn]
  apply List.map_congr_left
  intro i hi
  rw [key i (by simpa using hi)]

/-- The least: its place, and that every other is behind it. -/
theorem least_at (xs : List Nat) : ∀ k, k < xs.length → ∃ p, p ≤ k ∧ best ah (xs.take (k + 1)) = nth xs p ∧ ∀ q, q ≤ k → q ≠ p → lt (key (nth xs)) p q := by
  intro k
  induction k with
  | zero => intro h; exact ⟨0, by omega, best_one ah xs h, fun q h1 h2 => by omega⟩
  | succ k ih =>
    intro h
    obtain ⟨p, h1, h2, h3⟩ := ih (by omega)
    rw [best_step ah xs k h, h2]
    by_cases c : K (nth xs (k + 1)) < K (nth xs p)
    · refine ⟨k + 1, by omega, by simp [ah, c], fun q h4 h5 => ?_⟩
      by_cases e : q = p
      · rw [e]; exact lt_of c
      · exact (lt_of (k := key (nth xs)) c).trans (h3 q (by omega) e)
    · refine ⟨p, by omega, by simp [ah, c], fun q h4 h5 => ?_⟩
      by_cases e : q = k + 1
      · rw [e]; exact lt_mk (by unfold key; omega) (by omega)
      · exact h3 q (by omega) h5
theorem greatest_at (xs : List Nat) : ∀ k, k < xs.length → ∃ p, p ≤ k ∧ best (fun x y => ah y x) (xs.take (k + 1)) = nth xs p ∧ ∀ q, q ≤ k → K (nth xs q) ≤ K (nth xs p) := by
  intro k
  induction k with
  | zero =>
    intro h
    refine ⟨0, by omega, best_one _ xs h, fun q h1 => ?_⟩
    have e : q = 0 := by omega
    rw [e]; exact Int.le_refl _
  | succ k ih =>
    intro h
    obtain ⟨p, h1, h2, h3⟩ := ih (by omega)
    rw [best_step _ xs k h, h2]
    by_cases c : K (nth xs p) < K (nth xs (k + 1))
    · refine ⟨k + 1, by omega, by simp [ah, c], fun q h4 => ?_⟩
      by_cases e : q = k + 1
      · rw [e]; exact Int.le_refl _
      · have := h3 q (by omega); omega
    · refine ⟨p, by omega, by simp [ah, c], fun q h4 => ?_⟩
      by_cases e : q = k + 1
      · rw [e]; omega
      · exact h3 q (by omega)
theorem SortOf.least {w w' : World} {a : Option Addr} {n : Nat} {xs ys : List Nat} (h : SortOf w w' a n xs ys) (hn : xs.length = n) (h0 : 0 < n) : leastF xs = nth ys 0 := by
  obtain ⟨t, hs, rfl⟩ := h.t
  rw [nth_map _ _ _ h0]
  obtain ⟨p, h1, h2, h3⟩ := least_at xs (n - 1) (by omega)
  have e : n - 1 + 1 = n := by omega
  rw [e, List.take_of_length_le (by omega)] at h2
  unfold leastF
  rw [h2]
  by_cases c : t 0 = p
  · rw [c]
  · exfalso
    have o0 := hs.o 0 h0
    have l1 := h3 (t 0) (by omega) c
    obtain ⟨i, hi, he⟩ := hs.c p (by omega)
    have : i ≠ 0 := fun e => c (by rw [← e]; exact he)
    have l2 := hs.s 0 i (Nat.le_refl _) (by omega) hi
    rw [he] at l2
    exact (l1.trans l2).irrefl
theorem SortOf.greatest {w w' : World} {a : Option Addr} {n : Nat} {xs ys : List Nat} (h : SortOf w w' a n xs ys) (hn : xs.length = n) (h0 : 0 < n) : K (greatestF xs) = K (nth ys (n - 1)) := by
  have hup := h.up
  have hlen := h.len
  obtain ⟨t, hs, rfl⟩ := h.t
  obtain ⟨p, h1, h2, h3⟩ := greatest_at xs (n - 1) (by omega)
  have e : n - 1 + 1 = n := by omega
  rw [e, List.take_of_length_le (by omega)] at h2
  unfold greatestF
  rw [h2]
  obtain ⟨i, hi, he⟩ := hs.c p (by omega)
  have l1 := hup i (n - 1) (by omega) (by omega)
  rw [nth_map _ _ _ hi, nth_map _ _ _ (by omega), he] at l1
  rw [nth_map _ _ _ (by omega)]
  have l2 := h3 (t (n - 1)) (by have := hs.o (n - 1) (by omega); omega)
  omega

/-- How often v stands in a list. -/
def cnt (xs : List Nat) (v : Nat) : Nat := xs.countP (fun x => x == v)
theorem cnt_step (xs : List Nat) (v k : Nat) (h : k < xs.length) : cnt (xs.take (k + 1)) v = cnt (xs.take k) v + if nth xs k == v then 1 else 0 := by
  rw [take_snoc xs k h]; unfold cnt; rw [List.countP_append]
  cases e : (nth xs k == v) <;> simp [e]
theorem cnt_le (xs : List Nat) (v k : Nat) : cnt (xs.take k) v ≤ k := by
  have := List.countP_le_length (p := fun x => x == v) (l := xs.take k)
  rw [List.length_take] at this
  unfold cnt; omega
theorem cnt_perm {xs ys : List Nat} (h : List.Perm ys xs) (v k : Nat) (h1 : ¬ k < xs.length) (h2 : ¬ k < ys.length) : cnt (xs.take k) v = cnt (ys.take k) v := by
  rw [List.take_of_length_le (by omega), List.take_of_length_le (by omega)]
  exact (h.countP_eq _).symm
end Go.Proofs.YtnebmbabfghlaaaDoor
