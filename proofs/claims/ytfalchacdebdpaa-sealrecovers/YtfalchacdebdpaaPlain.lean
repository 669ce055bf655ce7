/- Changes and steps in plain words: lines, what a log is to hold, the steps that make changes; which changes may be. -/
import Derived.Test.YtfalchacdebdpaaMath
import Derived.Lib.SlicesCompact
namespace Go.Proofs.Ytfalchacdebdpaa
open Go.Lib

/-- Two rising rows with the same numbers are one. -/
theorem rising_eq : ∀ {a b : List Int}, a.Pairwise (· < ·) → b.Pairwise (· < ·) → (∀ x, x ∈ a ↔ x ∈ b) → a = b
  | [], [], _, _, _ => rfl
  | [], y :: b, _, _, h => absurd ((h y).2 (by simp)) (by simp)
  | x :: a, [], _, _, h => absurd ((h x).1 (by simp)) (by simp)
  | x :: a, y :: b, ha, hb, h => by
    obtain ⟨ha1, ha2⟩ := List.pairwise_cons.1 ha
    obtain ⟨hb1, hb2⟩ := List.pairwise_cons.1 hb
    have hxy : x = y := by
      rcases List.mem_cons.1 ((h x).1 (by simp)) with e | e
      · exact e
      · rcases List.mem_cons.1 ((h y).2 (by simp)) with e' | e'
        · exact e'.symm
        · have := hb1 x e; have := ha1 y e'; omega
    subst hxy
    congr 1
    refine rising_eq ha2 hb2 fun z => ⟨fun hz => ?_, fun hz => ?_⟩
    · rcases List.mem_cons.1 ((h z).1 (by simp [hz])) with e | e
      · subst e; exact absurd (ha1 z hz) (by omega)
      · exact e
    · rcases List.mem_cons.1 ((h z).2 (by simp [hz])) with e | e
      · subst e; exact absurd (hb1 z hz) (by omega)
      · exact e

theorem keeps_first (d : Array Int) (i : Nat) : ∃ j, j ≤ i ∧ keeps d j = true ∧ d[j]! = d[i]! := by
  induction i with
  | zero => exact ⟨0, Nat.le_refl _, by simp [keeps], rfl⟩
  | succ i ih =>
    by_cases h : keeps d (i + 1) = true
    · exact ⟨i + 1, Nat.le_refl _, h, rfl⟩
    · obtain ⟨j, h1, h2, h3⟩ := ih
      refine ⟨j, by omega, h2, ?_⟩
      rw [h3]
      simp [keeps] at h
      exact h.symm

theorem compact_mem (zs : List Int) (x : Int) : x ∈ compact zs ↔ x ∈ zs := by
  unfold compact compactUpTo
  constructor
  · intro h
    obtain ⟨i, hi, rfl⟩ := List.mem_map.1 h
    have hl : i < zs.length := List.mem_range.1 (List.mem_filter.1 hi).1
    simp [hl]
  · intro h
    obtain ⟨i, hi, rfl⟩ := List.mem_iff_getElem.1 h
    obtain ⟨j, h1, h2, h3⟩ := keeps_first zs.toArray i
    refine List.mem_map.2 ⟨j, List.mem_filter.2 ⟨List.mem_range.2 (by omega), h2⟩, ?_⟩
    rw [h3]; simp [hi]

theorem compact_rising (zs : List Int) (h : zs.Pairwise (· ≤ ·)) : (compact zs).Pairwise (· < ·) := by
  unfold compact compactUpTo
  refine List.pairwise_map.2 ?_
  have h1 : ((List.range zs.length).filter (keeps zs.toArray)).Pairwise (· < ·) := List.Pairwise.filter _ List.pairwise_lt_range
  refine List.Pairwise.imp_of_mem ?_ h1
  intro i j hi hj hij
  have li : i < zs.length := List.mem_range.1 (List.mem_filter.1 hi).1
  have lj : j < zs.length := List.mem_range.1 (List.mem_filter.1 hj).1
  have kj := (List.mem_filter.1 hj).2
  have hp : ∀ a b, a ≤ b → b < zs.length → zs[a]! ≤ zs[b]! := by
    intro a b hab hb
    by_cases e : a = b
    · subst e; exact Int.le_refl _
    · have := List.pairwise_iff_getElem.1 h a b (by omega) hb (by omega)
      simpa [show a < zs.length by omega, hb] using this
  have hk : ¬ zs[j]! = zs[j - 1]! := by
    intro e
    have h0 : ¬ j = 0 := by omega
    simp [keeps, h0] at kj
    apply kj
    simpa [lj, show j - 1 < zs.length by omega] using e
  have h2 := hp i (j - 1) (by omega) (by omega)
  have h3 := hp (j - 1) j (by omega) lj
  have : zs[i]! < zs[j]! := by omega
  simpa [li, lj] using this

/-- The first words of the lines that hold one of these words, in order. -/
def linesOf (l : List Int) : List Int := ((List.range 353).filter fun (q : Nat) => l.any fun a => decide (a / 8 = (q : Int))).map fun (q : Nat) => 8 * (q : Int)

theorem linesOf_mem (l : List Int) (hl : ∀ a ∈ l, 0 ≤ a ∧ a < 2824) (x : Int) : x ∈ linesOf l ↔ ∃ a ∈ l, x = a - a % 8 := by
  unfold linesOf
  constructor
  · intro h
    obtain ⟨q, hq, rfl⟩ := List.mem_map.1 h
    obtain ⟨a, ha, e⟩ := List.any_eq_true.1 (List.mem_filter.1 hq).2
    have e := of_decide_eq_true e
    exact ⟨a, ha, by omega⟩
  · rintro ⟨a, ha, rfl⟩
    have := hl a ha
    refine List.mem_map.2 ⟨(a / 8).toNat, List.mem_filter.2 ⟨List.mem_range.2 (by omega), List.any_eq_true.2 ⟨a, ha, decide_eq_true (by omega)⟩⟩, by omega⟩
theorem linesOf_rising (l : List Int) : (linesOf l).Pairwise (· < ·) := by
  unfold linesOf
  refine List.pairwise_map.2 ?_
  exact (List.Pairwise.filter _ List.pairwise_lt_range).imp fun {a b} h => by omega

/-- The program's way to the lines is the document's. -/
theorem lines_sorted (l : List Int) (hl : ∀ a ∈ l, 0 ≤ a ∧ a < 2824) : compact ((l.map fun a => a - a % 8).mergeSort fun x y => decide (x ≤ y)) = linesOf l := by
  have hs : ((l.map fun a => a - a % 8).mergeSort fun x y => decide (x ≤ y)).Pairwise (· ≤ ·) := by
    have := List.pairwise_mergeSort (le := fun x y : Int => decide (x ≤ y)) (fun a b c h1 h2 => by simp at *; omega) (fun a b => by simp; omega) (l.map fun a => a - a % 8)
    exact this.imp fun h => by simpa using h
  refine rising_eq (compact_rising _ hs) (linesOf_rising l) fun x => ?_
  rw [compact_mem, List.mem_mergeSort, linesOf_mem l hl]
  simp only [List.mem_map]
  exact ⟨fun ⟨a, h, e⟩ => ⟨a, h, e.symm⟩, fun ⟨a, h, e⟩ => ⟨a, h, e.symm⟩⟩

/-- A change: a word's place, and what it is to be. -/
abbrev Chg := Int × Int

/-- Steps behind which words are what they are to be. -/
def sureP (cs : List Chg) : List Stp := cs.map (fun c => ⟨1, c.1, c.2⟩) ++ (linesOf (cs.map (·.1))).map (fun a => ⟨2, a, 0⟩) ++ [⟨3, 0, 0⟩]
/-- What of the first k changes a log holds. -/
def notesTo (log : Int) (cs : List Chg) (k : Nat) : List Chg := (log + 1, (cs.length : Int)) :: (List.range k).flatMap fun (i : Nat) => [(log + 8 + 2 * (i : Int), (cs.getD i (0, 0)).1), (log + 8 + 2 * (i : Int) + 1, (cs.getD i (0, 0)).2)]
def notesP (log : Int) (cs : List Chg) : List Chg := notesTo log cs cs.length
def makingP (log : Int) (cs : List Chg) : List Stp := sureP cs ++ sureP [(log, 0)]
def sealingP (log num : Int) (cs : List Chg) : List Stp := sureP (notesP log cs) ++ sureP [(log, num)]
def stepsP (log num : Int) (cs : List Chg) : List Stp := sealingP log num cs ++ makingP log cs

/-- May a change name the word? -/
abbrev openI (a : Int) : Prop := 8 ≤ a ∧ a < 296 ∨ 1288 ≤ a ∧ a < 2824

/-- Which changes may be, as far as the first k. -/
def okTo (cs : List Chg) (k : Nat) : Prop := ∀ i, i < k → openI (cs.getD i (0, 0)).1 ∧ ∀ j, j < i → (cs.getD j (0, 0)).1 ≠ (cs.getD i (0, 0)).1
def okP (cs : List Chg) : Prop := okTo cs cs.length
def okDec (cs : List Chg) : Decidable (okP cs) := by unfold okP okTo; infer_instance
def okI (cs : List Chg) : Int := @ite Int (okP cs) (okDec cs) 0 1
theorem okI_pos {cs : List Chg} (h : okP cs) : okI cs = 0 := by unfold okI; rw [if_pos h]
theorem okI_neg {cs : List Chg} (h : ¬ okP cs) : okI cs = 1 := by unfold okI; rw [if_neg h]
/-- What Right answers. -/
def rightP (cs : List Chg) : Int := if 120 < cs.length then 13 else okI cs

theorem okTo_succ (cs : List Chg) (k : Nat) : okTo cs (k + 1) ↔ okTo cs k ∧ openI (cs.getD k (0, 0)).1 ∧ ∀ j, j < k → (cs.getD j (0, 0)).1 ≠ (cs.getD k (0, 0)).1 := by
  unfold okTo
  constructor
  · intro h; exact ⟨fun i hi => h i (by omega), h k (by omega)⟩
  · rintro ⟨h1, h2⟩ i hi
    by_cases e : i = k
    · subst e; exact h2
    · exact h1 i (by omega)
theorem okTo_le {cs : List Chg} {k n : Nat} (h : okTo cs n) (hk : k ≤ n) : okTo cs k := fun i hi => h i (by omega)

theorem rightP_ok {cs : List Chg} (h : rightP cs = 0) : cs.length ≤ 120 ∧ okP cs := by
  unfold rightP at h
  split at h
  · cases h
  · by_cases h2 : okP cs
    · exact ⟨by omega, h2⟩
    · rw [okI_neg h2] at h; cases h

theorem okP_open {cs : List Chg} (h : okP cs) (c : Chg) (hc : c ∈ cs) : openI c.1 := by
  obtain ⟨i, hi, rfl⟩ := List.mem_iff_getElem.1 hc
  have := (h i hi).1
  simpa [hi] using this
theorem okP_once {cs : List Chg} (h : okP cs) : (cs.map (·.1)).Pairwise (· ≠ ·) := by
  refine List.pairwise_map.2 (List.pairwise_iff_getElem.2 fun i j hi hj hij => ?_)
  have := (h j hj).2 i hij
  simpa [hi, hj] using this

end Go.Proofs.Ytfalchacdebdpaa
