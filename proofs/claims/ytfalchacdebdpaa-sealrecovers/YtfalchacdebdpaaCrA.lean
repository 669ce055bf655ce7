/- Words behind steps, whole and in part: what a phase of steps makes of each word, what a crash then leaves. -/
import Derived.Test.YtfalchacdebdpaaPlain
namespace Go.Proofs.Ytfalchacdebdpaa

/-- What words are when changes have been made. -/
def overC (g : Nat → Int) (cs : List Chg) : Nat → Int := fun k => match cs.find? (fun c => decide (c.1 = (k : Int))) with | some c => c.2 | none => g k

def Once (cs : List Chg) : Prop := (cs.map (·.1)).Pairwise (· ≠ ·)
def Inside (cs : List Chg) : Prop := ∀ c ∈ cs, 0 ≤ c.1 ∧ c.1 < 2824

theorem once_eq : ∀ {cs : List Chg}, Once cs → ∀ {c d : Chg}, c ∈ cs → d ∈ cs → c.1 = d.1 → c = d
  | [], _, _, _, h, _, _ => absurd h (by simp)
  | x :: cs, h, c, d, hc, hd, e => by
    unfold Once at h
    rw [List.map_cons, List.pairwise_cons] at h
    rcases List.mem_cons.1 hc with h2 | h2
    · rcases List.mem_cons.1 hd with h3 | h3
      · rw [h2, h3]
      · rw [h2] at e; exact absurd e (h.1 _ (List.mem_map.2 ⟨d, h3, rfl⟩))
    · rcases List.mem_cons.1 hd with h3 | h3
      · rw [h3] at e; exact absurd e.symm (h.1 _ (List.mem_map.2 ⟨c, h2, rfl⟩))
      · exact once_eq (cs := cs) h.2 h2 h3 e

theorem overC_in {g : Nat → Int} {cs : List Chg} (h1 : Once cs) {c : Chg} (hc : c ∈ cs) {k : Nat} (hk : c.1 = k) : overC g cs k = c.2 := by
  unfold overC
  cases hf : cs.find? (fun c => decide (c.1 = (k : Int))) with
  | none => exact absurd hk (by simpa using List.find?_eq_none.1 hf c hc)
  | some d =>
    have hd := List.mem_of_find?_eq_some hf
    have hp : d.1 = (k : Int) := by simpa using List.find?_some hf
    rw [once_eq h1 hc hd (hk.trans hp.symm)]
theorem overC_out {g : Nat → Int} {cs : List Chg} {k : Nat} (h : ∀ c ∈ cs, c.1 ≠ (k : Int)) : overC g cs k = g k := by
  unfold overC
  have : cs.find? (fun c => decide (c.1 = (k : Int))) = none := List.find?_eq_none.2 fun c hc => by simpa using h c hc
  rw [this]
theorem overC_or {g : Nat → Int} {cs : List Chg} (h1 : Once cs) (k : Nat) : (∃ c ∈ cs, c.1 = (k : Int) ∧ overC g cs k = c.2) ∨ ((∀ c ∈ cs, c.1 ≠ (k : Int)) ∧ overC g cs k = g k) := by
  by_cases h : ∃ c ∈ cs, c.1 = (k : Int)
  · obtain ⟨c, hc, e⟩ := h
    exact .inl ⟨c, hc, e, overC_in h1 hc e⟩
  · have h' : ∀ c ∈ cs, c.1 ≠ (k : Int) := fun c hc e => h ⟨c, hc, e⟩
    exact .inr ⟨h', overC_out h'⟩
theorem once_one (a v : Int) : Once [(a, v)] := by simp [Once]

/-- The steps but for what is evicted between them. -/
def strip (ss : List Stp) : List Stp := ss.filter fun o => decide (o.kind ≠ 4)
theorem strip_puts (k : Int) (ss : List Stp) : (strip ss).filter (Stp.puts k) = ss.filter (Stp.puts k) := by
  unfold strip
  rw [List.filter_filter]
  apply List.filter_congr
  intro o _
  by_cases h : o.kind = 1
  · simp [Stp.puts, h]
  · simp [Stp.puts, h]
theorem strip_split {ss a b : List Stp} (h : strip ss = a ++ b) : ∃ s t, ss = s ++ t ∧ strip s = a ∧ strip t = b := List.filter_eq_append_iff.1 h
theorem strip_sub (ss : List Stp) : List.Sublist (strip ss) ss := List.filter_sublist
theorem strip_append (a b : List Stp) : strip (a ++ b) = strip a ++ strip b := List.filter_append ..

theorem sureP_kinds (cs : List Chg) : ∀ o ∈ sureP cs, o.kind = 1 ∧ (∃ c ∈ cs, o = ⟨1, c.1, c.2⟩) ∨ o.kind = 2 ∧ (∃ a ∈ linesOf (cs.map (·.1)), o = ⟨2, a, 0⟩) ∨ o = ⟨3, 0, 0⟩ := by
  intro o ho
  unfold sureP at ho
  rcases List.mem_append.1 ho with ho | ho
  · rcases List.mem_append.1 ho with ho | ho
    · obtain ⟨c, hc, rfl⟩ := List.mem_map.1 ho
      exact .inl ⟨rfl, c, hc, rfl⟩
    · obtain ⟨a, ha, rfl⟩ := List.mem_map.1 ho
      exact .inr (.inl ⟨rfl, a, ha, rfl⟩)
  · exact .inr (.inr (by simpa using ho))
theorem sureP_real (cs : List Chg) : ∀ o ∈ sureP cs, o.kind ≠ 4 := by
  intro o ho
  rcases sureP_kinds cs o ho with ⟨h, _⟩ | ⟨h, _⟩ | h
  · omega
  · omega
  · rw [h]; decide
theorem strip_real {ss : List Stp} (h : ∀ o ∈ ss, o.kind ≠ 4) : strip ss = ss := List.filter_eq_self.2 fun o ho => by simpa using h o ho

theorem puts_sureP (k : Int) (cs : List Chg) : (sureP cs).filter (Stp.puts k) = (cs.filter fun c => decide (c.1 = k)).map fun c => ⟨1, c.1, c.2⟩ := by
  unfold sureP
  rw [List.filter_append, List.filter_append]
  have e1 : ((linesOf (cs.map (·.1))).map fun a => (⟨2, a, 0⟩ : Stp)).filter (Stp.puts k) = [] := List.filter_eq_nil_iff.2 fun o ho => by
    obtain ⟨a, _, rfl⟩ := List.mem_map.1 ho
    simp [Stp.puts]
  have e2 : ([⟨3, 0, 0⟩] : List Stp).filter (Stp.puts k) = [] := by simp [Stp.puts]
  rw [e1, e2, List.append_nil, List.append_nil, List.filter_map]
  congr 1
theorem filter_one : ∀ {cs : List Chg}, Once cs → ∀ {c : Chg}, c ∈ cs → cs.filter (fun d => decide (d.1 = c.1)) = [c]
  | [], _, _, h => absurd h (by simp)
  | x :: cs, h, c, hc => by
    have h0 := h
    unfold Once at h
    rw [List.map_cons, List.pairwise_cons] at h
    rcases List.mem_cons.1 hc with rfl | hc
    · have : cs.filter (fun d => decide (d.1 = c.1)) = [] := List.filter_eq_nil_iff.2 fun d hd => by
        have := h.1 _ (List.mem_map.2 ⟨d, hd, rfl⟩)
        simpa using fun e => this e.symm
      rw [List.filter_cons_of_pos (by simp), this]
    · have hx : ¬ x.1 = c.1 := h.1 _ (List.mem_map.2 ⟨c, hc, rfl⟩)
      rw [List.filter_cons_of_neg (by simpa using hx)]
      exact filter_one (cs := cs) h.2 hc
theorem puts_in {cs : List Chg} (h1 : Once cs) {c : Chg} (hc : c ∈ cs) : (sureP cs).filter (Stp.puts c.1) = [⟨1, c.1, c.2⟩] := by
  rw [puts_sureP, filter_one h1 hc]; rfl
theorem puts_out {cs : List Chg} {k : Int} (h : ∀ c ∈ cs, c.1 ≠ k) : (sureP cs).filter (Stp.puts k) = [] := by
  rw [puts_sureP, List.filter_eq_nil_iff.2 (fun c hc => by simpa using h c hc)]; rfl

theorem sublist_sureP {cs : List Chg} (hin : Inside cs) {c : Chg} (hc : c ∈ cs) : List.Sublist [⟨1, c.1, c.2⟩, ⟨2, c.1 - c.1 % 8, 0⟩, ⟨3, 0, 0⟩] (sureP cs) := by
  have m1 : (⟨1, c.1, c.2⟩ : Stp) ∈ cs.map (fun c => (⟨1, c.1, c.2⟩ : Stp)) := List.mem_map.2 ⟨c, hc, rfl⟩
  have m2 : (⟨2, c.1 - c.1 % 8, 0⟩ : Stp) ∈ (linesOf (cs.map (·.1))).map (fun a => (⟨2, a, 0⟩ : Stp)) := by
    refine List.mem_map.2 ⟨c.1 - c.1 % 8, (linesOf_mem _ ?_ _).2 ⟨c.1, List.mem_map.2 ⟨c, hc, rfl⟩, rfl⟩, rfl⟩
    intro a ha
    obtain ⟨d, hd, rfl⟩ := List.mem_map.1 ha
    exact hin d hd
  have := ((List.singleton_sublist.2 m1).append (List.singleton_sublist.2 m2)).append (List.Sublist.refl [(⟨3, 0, 0⟩ : Stp)])
  exact this

/-- A word that is stored once among steps that hold all of a phase is sure as the phase says. -/
theorem sure_in {ss : List Stp} {cs : List Chg} (hsub : List.Sublist (sureP cs) ss) (hin : Inside cs) {c : Chg} (hc : c ∈ cs) {k : Nat} (hk : c.1 = k) (hput : ss.filter (Stp.puts k) = [⟨1, k, c.2⟩]) (u : Int) : runW k (.sure u) ss = .sure c.2 := by
  have h3 := (sublist_sureP hin hc).trans hsub
  rw [hk] at h3
  exact run_once ss ⟨2, (k : Int) - (k : Int) % 8, 0⟩ rfl (by show (k : Int) / 8 = ((k : Int) - (k : Int) % 8) / 8; omega) ⟨3, 0, 0⟩ rfl h3 hput
theorem sure_out {ss : List Stp} {k : Nat} (hput : ss.filter (Stp.puts k) = []) (u : Int) : runW k (.sure u) ss = .sure u :=
  run_sure k u ss fun o ho => by simpa using List.filter_eq_nil_iff.1 hput o ho

/-- A whole phase. -/
theorem phase_all {ss : List Stp} {cs : List Chg} (hs : strip ss = sureP cs) (h1 : Once cs) (hin : Inside cs) (g : Nat → Int) (k : Nat) : runW k (.sure (g k)) ss = .sure (overC g cs k) := by
  have hp := strip_puts k ss
  rw [hs] at hp
  rcases overC_or (g := g) h1 k with ⟨c, hc, e, h⟩ | ⟨hn, h⟩
  · rw [h]
    have := puts_in h1 hc
    rw [e] at this
    refine sure_in (cs := cs) ?_ hin hc e (hp.symm.trans this) _
    rw [← hs]; exact strip_sub ss
  · rw [h]
    exact sure_out (hp.symm.trans (puts_out hn)) _

/-- What a crash may leave of a word. -/
def Left (x : Wst) (v : Int) : Prop := v = x.s ∨ v = x.l.getD x.s
theorem left_sure {u v : Int} (h : Left (.sure u) v) : v = u := by rcases h with h | h <;> exact h

/-- A part of a phase, and a crash. -/
theorem phase_part {ss : List Stp} {cs : List Chg} {m : Nat} (hs : strip ss = (sureP cs).take m) (h1 : Once cs) (g : Nat → Int) (k : Nat) {v : Int} (hv : Left (runW k (.sure (g k)) ss) v) :
    v = g k ∨ ∃ c ∈ cs, c.1 = (k : Int) ∧ v = c.2 := by
  have hp := strip_puts k ss
  rw [hs] at hp
  have hsub : List.Sublist (ss.filter (Stp.puts k)) ((sureP cs).filter (Stp.puts k)) := by
    rw [← hp]; exact (List.take_sublist _ _).filter _
  by_cases h : ∃ c ∈ cs, c.1 = (k : Int)
  · obtain ⟨c, hc, e⟩ := h
    have hq := puts_in h1 hc
    rw [e] at hq
    rw [hq] at hsub
    have hone : ss.filter (Stp.puts k) = [] ∨ ss.filter (Stp.puts k) = [⟨1, (k : Int), c.2⟩] := by
      cases hf : ss.filter (Stp.puts k) with
      | nil => exact .inl rfl
      | cons x xs =>
        rw [hf] at hsub
        have hl := hsub.length_le
        simp at hl
        subst hl
        right
        exact List.singleton_sublist.1 hsub |> fun h => by simpa using h
    rcases run_most (u := g k) ss hone with h | h
    · rw [h] at hv; exact .inl (left_sure hv)
    · obtain ⟨h2, h3⟩ := May.crashed h
      rcases hv with hv | hv
      · rcases h2 with h2 | h2
        · exact .inl (hv.trans h2)
        · exact .inr ⟨c, hc, e, hv.trans h2⟩
      · exact .inr ⟨c, hc, e, hv.trans h3⟩
  · have hn : ∀ c ∈ cs, c.1 ≠ (k : Int) := fun c hc e => h ⟨c, hc, e⟩
    rw [puts_out hn] at hsub
    have : ss.filter (Stp.puts k) = [] := List.sublist_nil.1 hsub
    rw [sure_out this] at hv
    exact .inl (left_sure hv)

end Go.Proofs.Ytfalchacdebdpaa
