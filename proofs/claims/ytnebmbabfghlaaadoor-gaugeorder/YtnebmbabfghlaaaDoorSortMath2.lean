/- Plain mathematics of insertion, one element at a time. -/
import Derived.Test.YtnebmbabfghlaaaDoorSortMath
namespace Go.Proofs.YtnebmbabfghlaaaDoor

/-- The places on [a, b) rise. -/
def Inc (s : Nat → Nat) (a b : Nat) : Prop := ∀ i j, a ≤ i → i < j → j < b → s i < s j
/-- An element on its way down, at j, among [a, i]. -/
structure Ins (k : Nat → Int) (u : Nat → Nat) (a i j : Nat) : Prop where
  o : ∀ p q, a ≤ p → p < q → q ≤ i → p ≠ j → q ≠ j → lt k (u p) (u q)
  b : ∀ q, j < q → q ≤ i → lt k (u j) (u q)
  x : ∀ q, a ≤ q → q ≤ i → q ≠ j → u q < u j

theorem ins_start {k : Nat → Int} {s t : Nat → Nat} {a i b : Nat} (hp : Prm s t a i) (hs : Srt k t a i) (hi : Inc s a b) (hb : i < b) : Ins k t a i i :=
  ⟨fun p q h1 h2 h3 h4 h5 => hs p q h1 h2 (by omega), fun q h1 h2 => by omega, fun q h1 h2 h3 => by
    obtain ⟨j, c1, c2, c3⟩ := hp.into q h1 (by omega)
    rw [c3, hp.out i (by omega)]
    exact hi j i c1 c2 hb⟩
theorem ins_step {k : Nat → Int} {u : Nat → Nat} {a i j : Nat} (h : Ins k u a i j) (ha : a < j) (hj : j ≤ i) (hk : k (u j) < k (u (j - 1))) : Ins k (sw u j (j - 1)) a i (j - 1) := by
  have e1 : sw u j (j - 1) j = u (j - 1) := by unfold sw; rw [if_pos rfl]
  have e2 : sw u j (j - 1) (j - 1) = u j := by unfold sw; rw [if_neg (by omega), if_pos rfl]
  have e3 : ∀ x, x ≠ j → x ≠ j - 1 → sw u j (j - 1) x = u x := fun x h1 h2 => by unfold sw; rw [if_neg h1, if_neg h2]
  refine ⟨fun p q h1 h2 h3 h4 h5 => ?_, fun q h1 h2 => ?_, fun q h1 h2 h3 => ?_⟩
  · by_cases c1 : p = j
    · rw [c1, e1, e3 q (by omega) h5]; exact h.o _ _ (by omega) (by omega) h3 (by omega) (by omega)
    · by_cases c2 : q = j
      · rw [c2, e1, e3 p c1 h4]; exact h.o _ _ h1 (by omega) (by omega) (by omega) (by omega)
      · rw [e3 p c1 h4, e3 q c2 h5]; exact h.o _ _ h1 h2 h3 c1 c2
  · rw [e2]
    by_cases c1 : q = j
    · rw [c1, e1]; exact lt_of hk
    · rw [e3 q c1 (by omega)]; exact h.b q (by omega) h2
  · rw [e2]
    by_cases c1 : q = j
    · rw [c1, e1]; exact h.x _ (by omega) (by omega) (by omega)
    · rw [e3 q c1 h3]; exact h.x q h1 h2 c1
theorem ins_end {k : Nat → Int} {u : Nat → Nat} {a i j : Nat} (h : Ins k u a i j) (hj : j ≤ i) (hk : j ≤ a ∨ ¬ k (u j) < k (u (j - 1))) : Srt k u a (i + 1) := by
  intro p q h1 h2 h3
  by_cases c1 : p = j
  · rw [c1]; exact h.b q (by omega) (by omega)
  · by_cases c2 : q = j
    · rw [c2]
      have hx := h.x p h1 (by omega) c1
      have hle : k (u p) ≤ k (u (j - 1)) := by
        by_cases c3 : p = j - 1
        · rw [c3]; exact Int.le_refl _
        · exact (h.o p (j - 1) h1 (by omega) (by omega) c1 (by omega)).le
      exact lt_mk (by omega) hx
    · exact h.o p q h1 h2 (by omega) c1 c2
end Go.Proofs.YtnebmbabfghlaaaDoor
