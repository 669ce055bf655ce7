/- What a crash leaves of a log that is being made, or made again. -/
import Derived.Test.YtfalchacdebdpaaCrB
namespace Go.Proofs.Ytfalchacdebdpaa

theorem notes_once (lg : Int) (cs : List Chg) : Once (notesP lg cs) := by
  have key : ∀ k, Once (notesTo lg cs k) ∧ ∀ c ∈ notesTo lg cs k, c.1 < lg + 8 + 2 * (k : Int) := by
    intro k
    induction k with
    | zero =>
      refine ⟨by simp [Once, notesTo], fun c hc => ?_⟩
      have : c = (lg + 1, (cs.length : Int)) := by simpa [notesTo] using hc
      rw [this]; dsimp only; omega
    | succ k ih =>
      obtain ⟨h1, h2⟩ := ih
      rw [notesTo_succ]
      refine ⟨?_, fun c hc => ?_⟩
      · unfold Once
        rw [List.map_append, List.pairwise_append]
        refine ⟨h1, by simp; omega, fun a ha b hb => ?_⟩
        obtain ⟨c, hc, rfl⟩ := List.mem_map.1 ha
        have := h2 c hc
        simp only [List.map_cons, List.map_nil, List.mem_cons, List.not_mem_nil, or_false] at hb
        rcases hb with rfl | rfl <;> omega
      · rcases List.mem_append.1 hc with hc | hc
        · have := h2 c hc; omega
        · simp only [List.mem_cons, List.not_mem_nil, or_false] at hc
          rcases hc with rfl | rfl <;> (dsimp only; omega)
  exact (key cs.length).1

/-- Where a log's words lie. -/
abbrev inLog (s : Nat) (k : Nat) : Prop := logAt s ≤ k ∧ k < logAt s + 248

/-- Changes in the log of slot s under a number. -/
structure Ctx (s : Nat) (num : Int) (cs : List Chg) (g0 : Nat → Int) : Prop where
  slot : s < 4
  num : num ≠ 0
  right : rightP cs = 0
  zero : g0 (logAt s) = 0

section
variable {s : Nat} {num : Int} {cs : List Chg} {g0 g : Nat → Int}

theorem Ctx.at_ (h : Ctx s num cs g0) : 296 ≤ logAt s ∧ logAt s + 248 ≤ 1288 := by
  have := h.slot
  have : logAt s = 296 + 248 * s := rfl
  omega
theorem Ctx.open_ (h : Ctx s num cs g0) {c : Chg} (hc : c ∈ cs) {k : Nat} (hk : c.1 = (k : Int)) : k < 2824 ∧ ¬ inLog s k := by
  have h1 := okP_open (rightP_ok h.right).2 c hc
  have h2 := h.at_
  unfold openI at h1
  unfold inLog
  omega
theorem Ctx.note (h : Ctx s num cs g0) {c : Chg} (hc : c ∈ notesP (logAt s) cs) {k : Nat} (hk : c.1 = (k : Int)) : inLog s k ∧ k ≠ logAt s := by
  have hl := (rightP_ok h.right).1
  unfold inLog
  rcases (notes_mem c).1 hc with rfl | ⟨i, hi, rfl | rfl⟩ <;> (dsimp only at hk; omega)
theorem Ctx.notesIn (h : Ctx s num cs g0) : Inside (notesP (logAt s) cs) := fun c hc => by
  have hl := (rightP_ok h.right).1
  have := h.at_
  rcases (notes_mem c).1 hc with rfl | ⟨i, hi, rfl | rfl⟩ <;> (dsimp only; omega)
theorem Ctx.oneIn (h : Ctx s num cs g0) (v : Int) : Inside [((logAt s : Int), v)] := one_inside (by have := h.at_; omega)

/-- Nothing is sealed; no word of files is changed. -/
def StA (s : Nat) (g0 g : Nat → Int) : Prop := g (logAt s) = 0 ∧ ∀ k, k < 2824 → ¬ inLog s k → g k = g0 k
/-- The changes are sealed; some are made. -/
def StB (s : Nat) (num : Int) (cs : List Chg) (g0 g : Nat → Int) : Prop := LogIs g s num cs ∧ ∀ k, k < 2824 → ¬ inLog s k → g k = g0 k ∨ ∃ c ∈ cs, c.1 = (k : Int) ∧ g k = c.2
/-- All are made, and the log is free. -/
def StC (s : Nat) (cs : List Chg) (g0 g : Nat → Int) : Prop := g (logAt s) = 0 ∧ ∀ k, k < 2824 → ¬ inLog s k → g k = overC g0 cs k

theorem over_one (g : Nat → Int) (a : Nat) (v : Int) (k : Nat) : overC g [((a : Int), v)] k = if k = a then v else g k := by
  by_cases e : k = a
  · subst e; rw [if_pos rfl]; exact overC_in (once_one _ _) (c := ((k : Int), v)) (by simp) rfl
  · rw [if_neg e]; exact overC_out fun c hc => by
      obtain rfl : c = ((a : Int), v) := by simpa using hc
      intro h; apply e; dsimp only at h; omega

/-- The log holds its changes once its notes are sure. -/
theorem Ctx.logIs (h : Ctx s num cs g0) (hg : g (logAt s) = num) (hn : ∀ k, inLog s k → k ≠ logAt s → g k = overC g0 (notesP (logAt s) cs) k) : LogIs g s num cs :=
  ⟨hg, fun c hc k hk => by
    obtain ⟨h1, h2⟩ := h.note hc hk
    rw [hn k h1 h2]; exact overC_in (notes_once _ _) hc hk⟩
theorem Ctx.notes_out (h : Ctx s num cs g0) {k : Nat} (hk : ¬ inLog s k ∨ k = logAt s) : overC g0 (notesP (logAt s) cs) k = g0 k := overC_out fun c hc e => by
  obtain ⟨h1, h2⟩ := h.note hc e
  rcases hk with hk | hk
  · exact hk h1
  · exact h2 hk
theorem Ctx.cs_out (h : Ctx s num cs g0) (f : Nat → Int) {k : Nat} (hk : inLog s k) : overC f cs k = f k := overC_out fun _ hc e => (h.open_ hc e).2 hk
theorem Ctx.inl (_ : Ctx s num cs g0) : inLog s (logAt s) := ⟨Nat.le_refl _, by omega⟩

/-- A part of what is made again, behind a seal. -/
theorem again_part (h : Ctx s num cs g0) (hB : StB s num cs g0 g) {ss : List Stp} {n : Nat} (hs : strip ss = (makingP (logAt s) cs).take n) {g' : Nat → Int}
    (hv : ∀ k : Nat, k < 2824 → Left (runW k (.sure (g k)) ss) (g' k)) : StB s num cs g0 g' ∨ StC s cs g0 g' := by
  have hc1 := rightP_once h.right
  have hlg := h.at_
  unfold makingP at hs
  rw [List.take_append] at hs
  by_cases hn : n < (sureP cs).length
  · rw [show n - (sureP cs).length = 0 by omega, List.take_zero, List.append_nil] at hs
    left
    have key := fun (k : Nat) (hk : k < 2824) => phase_part hs hc1 g k (hv k hk)
    have out : ∀ k, k < 2824 → inLog s k → g' k = g k := fun k hk hi => by
      rcases key k hk with e | ⟨c, hc, e, _⟩
      · exact e
      · exact absurd hi (h.open_ hc e).2
    refine ⟨⟨(out _ (by omega) h.inl).trans hB.1.1, fun c hc k hk => ?_⟩, fun k hk hi => ?_⟩
    · have hi := (h.note hc hk).1
      rw [out k (by unfold inLog at hi; omega) hi]; exact hB.1.2 c hc k hk
    · rcases key k hk with e | ⟨c, hc, e, e2⟩
      · rw [e]; exact hB.2 k hk hi
      · exact .inr ⟨c, hc, e, e2⟩
  · rw [List.take_of_length_le (by omega : (sureP cs).length ≤ n)] at hs
    obtain ⟨s1, s2, rfl, h1, h2⟩ := strip_split hs
    have hw : ∀ k : Nat, k < 2824 → g' k = overC g cs k ∨ k = logAt s ∧ g' k = 0 := fun k hk => by
      have := hv k hk
      rw [runW_append, phase_all h1 hc1 (rightP_inside h.right) g k] at this
      rcases phase_part h2 (once_one _ _) (overC g cs) k this with e | ⟨c, hc, e, e2⟩
      · exact .inl e
      · obtain rfl : c = ((logAt s : Int), 0) := by simpa using hc
        exact .inr ⟨by dsimp only at e; omega, e2⟩
    have hx : ∀ k, k < 2824 → ¬ inLog s k → g' k = overC g0 cs k := fun k hk hi => by
      rcases hw k hk with e | ⟨e, _⟩
      · rw [e]
        rcases overC_or (g := g) hc1 k with ⟨c, hc, e1, e2⟩ | ⟨hno, e2⟩
        · rw [e2, overC_in hc1 hc e1]
        · rw [e2, overC_out hno]
          rcases hB.2 k hk hi with e3 | ⟨c, hc, e3, _⟩
          · exact e3
          · exact absurd e3 (hno c hc)
      · rw [e] at hi; exact absurd h.inl hi
    rcases hw (logAt s) (by omega) with e | ⟨_, e⟩
    · left
      rw [h.cs_out g h.inl, hB.1.1] at e
      refine ⟨⟨e, fun c hc k hk => ?_⟩, fun k hk hi => ?_⟩
      · obtain ⟨hi, hne⟩ := h.note hc hk
        rcases hw k (by unfold inLog at hi; omega) with e2 | ⟨e2, _⟩
        · rw [e2, h.cs_out g hi]; exact hB.1.2 c hc k hk
        · exact absurd e2 hne
      · rcases overC_or (g := g0) hc1 k with ⟨c, hc, e1, e2⟩ | ⟨_, e2⟩
        · exact .inr ⟨c, hc, e1, by rw [hx k hk hi, e2]⟩
        · exact .inl (by rw [hx k hk hi, e2])
    · right
      exact ⟨e, hx⟩

/-- All of it. -/
theorem again_all (h : Ctx s num cs g0) (hB : StB s num cs g0 g) {ss : List Stp} (hs : strip ss = makingP (logAt s) cs) {g' : Nat → Int}
    (hv : ∀ k : Nat, k < 2824 → runW k (.sure (g k)) ss = .sure (g' k)) : StC s cs g0 g' := by
  have hc1 := rightP_once h.right
  have hlg := h.at_
  obtain ⟨s1, s2, rfl, h1, h2⟩ := strip_split hs
  have hw : ∀ k : Nat, k < 2824 → g' k = overC (overC g cs) [((logAt s : Int), 0)] k := fun k hk => by
    have := hv k hk
    rw [runW_append, phase_all h1 hc1 (rightP_inside h.right) g k, phase_all h2 (once_one _ _) (h.oneIn 0) (overC g cs) k] at this
    unfold Wst.sure at this
    simp only [Wst.mk.injEq] at this
    exact this.1.symm
  refine ⟨?_, fun k hk hi => ?_⟩
  · rw [hw _ (by omega), over_one, if_pos rfl]
  · rw [hw k hk, over_one, if_neg (fun e => hi (by rw [e]; exact h.inl))]
    rcases overC_or (g := g) hc1 k with ⟨c, hc, e1, e2⟩ | ⟨hno, e2⟩
    · rw [e2, overC_in hc1 hc e1]
    · rw [e2, overC_out hno]
      rcases hB.2 k hk hi with e3 | ⟨c, hc, e3, _⟩
      · exact e3
      · exact absurd e3 (hno c hc)

/-- A part of all the steps, from a free log on. -/
theorem steps_part (h : Ctx s num cs g0) {ss : List Stp} {n : Nat} (hs : strip ss = (stepsP (logAt s) num cs).take n)
    (hv : ∀ k : Nat, k < 2824 → Left (runW k (.sure (g0 k)) ss) (g k)) :
    (n < (sealingP (logAt s) num cs).length → StA s g0 g ∨ StB s num cs g0 g) ∧ ((sealingP (logAt s) num cs).length ≤ n → StB s num cs g0 g ∨ StC s cs g0 g) := by
  have hc1 := rightP_once h.right
  have hn1 := notes_once (logAt s) cs
  have hlg := h.at_
  have hst : stepsP (logAt s) num cs = sealingP (logAt s) num cs ++ makingP (logAt s) cs := rfl
  have hse : sealingP (logAt s) num cs = sureP (notesP (logAt s) cs) ++ sureP [((logAt s : Int), num)] := rfl
  have hsl : (sealingP (logAt s) num cs).length = (sureP (notesP (logAt s) cs)).length + (sureP [((logAt s : Int), num)]).length := by rw [hse, List.length_append]
  rw [hst, List.take_append] at hs
  have part2 : ∀ (ss : List Stp) (n : Nat), strip ss = (sealingP (logAt s) num cs).take n → (∀ k : Nat, k < 2824 → Left (runW k (.sure (g0 k)) ss) (g k)) → StA s g0 g ∨ StB s num cs g0 g := by
    intro ss n hs hv
    rw [hse, List.take_append] at hs
    by_cases hn : n < (sureP (notesP (logAt s) cs)).length
    · rw [show n - (sureP (notesP (logAt s) cs)).length = 0 by omega, List.take_zero, List.append_nil] at hs
      left
      have key := fun (k : Nat) (hk : k < 2824) => phase_part hs hn1 g0 k (hv k hk)
      refine ⟨?_, fun k hk hi => ?_⟩
      · rcases key (logAt s) (by omega) with e | ⟨c, hc, e, _⟩
        · rw [e]; exact h.zero
        · exact absurd rfl (h.note hc e).2
      · rcases key k hk with e | ⟨c, hc, e, _⟩
        · exact e
        · exact absurd (h.note hc e).1 hi
    · rw [List.take_of_length_le (by omega : (sureP (notesP (logAt s) cs)).length ≤ n)] at hs
      obtain ⟨s1, s2, rfl, h1, h2⟩ := strip_split hs
      have hw : ∀ k : Nat, k < 2824 → g k = overC g0 (notesP (logAt s) cs) k ∨ k = logAt s ∧ g k = num := fun k hk => by
        have := hv k hk
        rw [runW_append, phase_all h1 hn1 h.notesIn g0 k] at this
        rcases phase_part h2 (once_one _ _) (overC g0 (notesP (logAt s) cs)) k this with e | ⟨c, hc, e, e2⟩
        · exact .inl e
        · obtain rfl : c = ((logAt s : Int), num) := by simpa using hc
          exact .inr ⟨by dsimp only at e; omega, e2⟩
      have hx : ∀ k, k < 2824 → ¬ inLog s k → g k = g0 k := fun k hk hi => by
        rcases hw k hk with e | ⟨e, _⟩
        · rw [e]; exact h.notes_out (.inl hi)
        · rw [e] at hi; exact absurd h.inl hi
      rcases hw (logAt s) (by omega) with e | ⟨_, e⟩
      · left
        rw [h.notes_out (.inr rfl), h.zero] at e
        exact ⟨e, hx⟩
      · right
        refine ⟨h.logIs e fun k hi hne => ?_, fun k hk hi => .inl (hx k hk hi)⟩
        rcases hw k (by unfold inLog at hi; omega) with e2 | ⟨e2, _⟩
        · exact e2
        · exact absurd e2 hne
  constructor
  · intro hn
    rw [show n - (sealingP (logAt s) num cs).length = 0 by omega, List.take_zero, List.append_nil] at hs
    exact part2 ss n hs hv
  · intro hn
    rw [List.take_of_length_le hn] at hs
    obtain ⟨s1, s2, rfl, h1, h2⟩ := strip_split hs
    rw [hse] at h1
    obtain ⟨s3, s4, rfl, h3, h4⟩ := strip_split h1
    have hB : StB s num cs g0 (overC (overC g0 (notesP (logAt s) cs)) [((logAt s : Int), num)]) := by
      refine ⟨h.logIs ?_ fun k hi hne => ?_, fun k hk hi => .inl ?_⟩
      · rw [over_one, if_pos rfl]
      · rw [over_one, if_neg hne]
      · rw [over_one, if_neg (fun e => hi (by rw [e]; exact h.inl))]; exact h.notes_out (.inl hi)
    refine again_part h hB h2 fun k hk => ?_
    have := hv k hk
    rw [runW_append, runW_append, phase_all h3 hn1 h.notesIn g0 k, phase_all h4 (once_one _ _) (h.oneIn num) _ k] at this
    exact this

/-- All the steps up to the seal. -/
theorem sealing_all (h : Ctx s num cs g0) {ss : List Stp} (hs : strip ss = sealingP (logAt s) num cs) (k : Nat) :
    runW k (.sure (g0 k)) ss = .sure (overC (overC g0 (notesP (logAt s) cs)) [((logAt s : Int), num)] k) := by
  have hse : sealingP (logAt s) num cs = sureP (notesP (logAt s) cs) ++ sureP [((logAt s : Int), num)] := rfl
  rw [hse] at hs
  obtain ⟨s3, s4, rfl, h3, h4⟩ := strip_split hs
  rw [runW_append, phase_all h3 (notes_once (logAt s) cs) h.notesIn g0 k, phase_all h4 (once_one _ _) (h.oneIn num) _ k]
theorem sealed_B (h : Ctx s num cs g0) : StB s num cs g0 (overC (overC g0 (notesP (logAt s) cs)) [((logAt s : Int), num)]) := by
  refine ⟨h.logIs ?_ fun k hi hne => ?_, fun k hk hi => .inl ?_⟩
  · rw [over_one, if_pos rfl]
  · rw [over_one, if_neg hne]
  · rw [over_one, if_neg (fun e => hi (by rw [e]; exact h.inl))]; exact h.notes_out (.inl hi)
end

end Go.Proofs.Ytfalchacdebdpaa
