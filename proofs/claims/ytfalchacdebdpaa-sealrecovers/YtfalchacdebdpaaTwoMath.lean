/- Two logs that are sealed in turn: what recovering makes of them. -/
import Derived.Test.YtfalchacdebdpaaArgs
namespace Go.Proofs.Ytfalchacdebdpaa

/-- The first j steps of each, in turn. -/
def inTurn (X Y : List Stp) (j : Nat) : List Stp := (List.range j).flatMap fun i => (X[i]?).toList ++ (Y[i]?).toList
theorem inTurn_succ (X Y : List Stp) (j : Nat) : inTurn X Y (j + 1) = inTurn X Y j ++ ((X[j]?).toList ++ (Y[j]?).toList) := by simp [inTurn, List.range_succ]
theorem inTurn_left (X Y : List Stp) (j : Nat) : List.Sublist (X.take j) (inTurn X Y j) := by
  induction j with
  | zero => simp [inTurn]
  | succ j ih =>
    rw [inTurn_succ, List.take_add_one]
    exact ih.append (List.sublist_append_left _ _)
theorem inTurn_right (X Y : List Stp) (j : Nat) : List.Sublist (Y.take j) (inTurn X Y j) := by
  induction j with
  | zero => simp [inTurn]
  | succ j ih =>
    rw [inTurn_succ, List.take_add_one]
    exact ih.append (List.sublist_append_right _ _)
theorem opt_filter {p : Stp → Bool} {Y : List Stp} (h : Y.filter p = []) (j : Nat) : ((Y[j]?).toList).filter p = [] := by
  cases hy : Y[j]? with
  | none => rfl
  | some y =>
    have := List.filter_eq_nil_iff.1 h y (List.mem_of_getElem? hy)
    simp [this]
theorem inTurn_fl {p : Stp → Bool} (X Y : List Stp) (h : Y.filter p = []) (j : Nat) : (inTurn X Y j).filter p = (X.take j).filter p := by
  induction j with
  | zero => simp [inTurn]
  | succ j ih => rw [inTurn_succ, List.take_add_one, List.filter_append, List.filter_append, List.filter_append, ih, opt_filter h, List.append_nil]
theorem inTurn_fr {p : Stp → Bool} (X Y : List Stp) (h : X.filter p = []) (j : Nat) : (inTurn X Y j).filter p = (Y.take j).filter p := by
  induction j with
  | zero => simp [inTurn]
  | succ j ih => rw [inTurn_succ, List.take_add_one, List.filter_append, List.filter_append, List.filter_append, ih, opt_filter h, List.nil_append]
theorem inTurn_mem {X Y : List Stp} {j : Nat} {s : Stp} (h : s ∈ inTurn X Y j) : s ∈ X ∨ s ∈ Y := by
  unfold inTurn at h
  obtain ⟨i, _, h⟩ := List.mem_flatMap.1 h
  rcases List.mem_append.1 h with h | h
  · exact .inl (List.mem_of_getElem? (by simpa using h))
  · exact .inr (List.mem_of_getElem? (by simpa using h))

/-- A log's part of the steps, and the image that it makes. -/
structure Side (s : Nat) (num : Int) (cs : List Chg) (X : List Stp) (g : Nat → Int) : Prop where
  ctx : Ctx s num cs headN
  steps : cs = [] ∧ X = [] ∧ g = headN ∨ cs ≠ [] ∧ X = sealingP (logAt s) num cs ∧ g = overC (overC headN (notesP (logAt s) cs)) [((logAt s : Int), num)]

section
variable {s : Nat} {num : Int} {cs : List Chg} {X : List Stp} {g : Nat → Int}
theorem seal_puts (_ : Ctx s num cs headN) (q : Nat) : (sealingP (logAt s) num cs).filter (Stp.puts q) = (sureP (notesP (logAt s) cs)).filter (Stp.puts q) ++ (sureP [((logAt s : Int), num)]).filter (Stp.puts q) := by
  unfold sealingP; rw [List.filter_append]
theorem Side.far (h : Side s num cs X g) {q : Nat} (hq : ¬ inLog s q) : X.filter (Stp.puts q) = [] ∧ g q = headN q := by
  rcases h.steps with ⟨_, rfl, rfl⟩ | ⟨_, rfl, rfl⟩
  · exact ⟨rfl, rfl⟩
  · have h1 : ∀ c ∈ notesP (logAt s : Int) cs, c.1 ≠ (q : Int) := fun c hc e => hq (h.ctx.note hc e).1
    have h2 : ∀ c ∈ [((logAt s : Int), num)], c.1 ≠ (q : Int) := fun c hc e => by
      obtain rfl : c = ((logAt s : Int), num) := by simpa using hc
      apply hq
      have : logAt s = q := by dsimp only at e; omega
      rw [← this]; exact h.ctx.inl
    refine ⟨by rw [seal_puts h.ctx, puts_out h1, puts_out h2]; rfl, ?_⟩
    rw [overC_out h2, overC_out h1]
/-- A word of its log behind all its steps, whatever else is done. -/
theorem Side.word (h : Side s num cs X g) {q : Nat} {ss : List Stp} (hsub : List.Sublist X ss) (hput : ss.filter (Stp.puts q) = X.filter (Stp.puts q)) : runW q (.sure (headN q)) ss = .sure (g q) := by
  rcases h.steps with ⟨_, rfl, rfl⟩ | ⟨_, rfl, rfl⟩
  · exact sure_out hput _
  · have c := h.ctx
    rw [seal_puts c] at hput
    have hs1 : List.Sublist (sureP (notesP (logAt s : Int) cs)) ss := (by unfold sealingP at hsub; exact (List.sublist_append_left _ _).trans hsub)
    have hs2 : List.Sublist (sureP [((logAt s : Int), num)]) ss := (by unfold sealingP at hsub; exact (List.sublist_append_right _ _).trans hsub)
    rcases overC_or (g := headN) (notes_once (logAt s) cs) q with ⟨d, hd, e, h1⟩ | ⟨hno, h1⟩
    · have hne := (c.note hd e).2
      have h2 : ∀ d ∈ [((logAt s : Int), num)], d.1 ≠ (q : Int) := fun d hd e => by
        obtain rfl : d = ((logAt s : Int), num) := by simpa using hd
        apply hne; dsimp only at e; omega
      rw [overC_out h2, h1]
      have hp := puts_in (notes_once (logAt s : Int) cs) hd
      rw [e] at hp
      rw [hp, puts_out h2, List.append_nil] at hput
      exact sure_in hs1 c.notesIn hd e hput _
    · rw [puts_out hno, List.nil_append] at hput
      by_cases hq : q = logAt s
      · subst hq
        have hp := puts_in (once_one (logAt s : Int) num) (c := ((logAt s : Int), num)) (by simp)
        rw [over_one, if_pos rfl]
        exact sure_in hs2 (c.oneIn num) (c := ((logAt s : Int), num)) (by simp) rfl (hput.trans hp) _
      · have h2 : ∀ d ∈ [((logAt s : Int), num)], d.1 ≠ (q : Int) := fun d hd e => by
          obtain rfl : d = ((logAt s : Int), num) := by simpa using hd
          apply hq; dsimp only at e; omega
        rw [overC_out h2, h1]
        rw [puts_out h2] at hput
        exact sure_out hput _
theorem Side.free (h : Side s num cs X g) (hc : cs = []) : ∀ q, g q = headN q := by
  rcases h.steps with ⟨_, _, rfl⟩ | ⟨e, _⟩
  · exact fun _ => rfl
  · exact absurd hc e
theorem Side.log (h : Side s num cs X g) (hc : cs ≠ []) : LogIs g s num cs := by
  rcases h.steps with ⟨e, _⟩ | ⟨_, _, rfl⟩
  · exact absurd e hc
  · exact (sealed_B h.ctx).1
theorem Side.fit (h : Side s num cs X g) (hn : 0 ≤ num ∧ num ≤ 18446744073709551615) (hok : ChgOk cs) : StpsFit X := by
  rcases h.steps with ⟨_, rfl, _⟩ | ⟨_, rfl, _⟩
  · intro x hx; cases hx
  · exact sealing_fit h.ctx hn hok
end

/-- The words behind both. -/
def bothG (gA gB : Nat → Int) (q : Nat) : Int := if inLog 0 q then gA q else gB q

theorem two_words {a b : List Chg} {X Y : List Stp} {gA gB : Nat → Int} (hA : Side 0 3 a X gA) (hB : Side 2 4 b Y gB) {j : Nat} (h1 : X.length ≤ j) (h2 : Y.length ≤ j) (q : Nat) :
    runW q (.sure (headN q)) (inTurn X Y j) = .sure (bothG gA gB q) := by
  have e1 : X.take j = X := List.take_of_length_le h1
  have e2 : Y.take j = Y := List.take_of_length_le h2
  unfold bothG
  by_cases hq : inLog 0 q
  · rw [if_pos hq]
    have hno : ¬ inLog 2 q := by
      have l0 : logAt 0 = 296 := rfl
      have l2 : logAt 2 = 792 := rfl
      unfold inLog at *; omega
    have hs := inTurn_left X Y j
    rw [e1] at hs
    refine hA.word hs ?_
    rw [inTurn_fl X Y (hB.far hno).1, e1]
  · rw [if_neg hq]
    have hs := inTurn_right X Y j
    rw [e2] at hs
    refine hB.word hs ?_
    rw [inTurn_fr X Y (hA.far hq).1, e2]

theorem openI_far {k : Nat} {t : Nat} (ht : t < 4) (h : openI (k : Int)) : ¬ inLog t k ∧ k < 2824 ∧ k ≠ logAt t := by
  have : logAt t = 296 + 248 * t := rfl
  unfold openI at h
  unfold inLog
  omega

/-- Recovering behind both. -/
theorem two_recover {a b : List Chg} {X Y : List Stp} {gA gB : Nat → Int} (hA : Side 0 3 a X gA) (hB : Side 2 4 b Y gB) (oka : ChgOk a) (okb : ChgOk b) {M M' : Mem} {k r : Int} (hM : SureM M (imgF M)) (hg : ∀ q, q < 2824 → imgF M q = bothG gA gB q) (hs : M.stops = false) (hr : RecSpec M k r M') :
    r = 0 ∧ k = (if a = [] then 0 else 1) + (if b = [] then 0 else 1) ∧ M'.read 296 = 0 ∧ M'.read 792 = 0 ∧ (∀ c ∈ b, M'.read c.1 = c.2) ∧ (∀ c ∈ a, (∀ d ∈ b, d.1 ≠ c.1) → M'.read c.1 = c.2) := by
  have l0 : logAt 0 = 296 := rfl
  have l1 : logAt 1 = 544 := rfl
  have l2 : logAt 2 = 792 := rfl
  have l3 : logAt 3 = 1040 := rfl
  have in0 : ∀ q, inLog 0 q → imgF M q = gA q := fun q hq => by
    rw [hg q (by unfold inLog at hq; omega)]; unfold bothG; rw [if_pos hq]
  have in2 : ∀ q, inLog 2 q → imgF M q = gB q := fun q hq => by
    have : ¬ inLog 0 q := by unfold inLog at *; omega
    rw [hg q (by unfold inLog at hq; omega)]; unfold bothG; rw [if_neg this]
  have out : ∀ q, q < 2824 → ¬ inLog 0 q → ¬ inLog 2 q → imgF M q = headN q := fun q hq h0 h2 => by
    rw [hg q hq]; unfold bothG; rw [if_neg h0]; exact (hB.far h2).2
  have hh : ∀ j, j < 8 → imgF M j = headN j := fun j hj => out j (by omega) (by unfold inLog; omega) (by unfold inLog; omega)
  have z1 : imgF M (logAt 1) = 0 := by
    rw [out (logAt 1) (by omega) (by unfold inLog; omega) (by unfold inLog; omega)]; rfl
  have z3 : imgF M (logAt 3) = 0 := by
    rw [out (logAt 3) (by omega) (by unfold inLog; omega) (by unfold inLog; omega)]; rfl
  have ra := hA.ctx.right
  have rb := hB.ctx.right
  have logA : a ≠ [] → LogIs (imgF M) 0 3 a := fun ha => by
    have hl := hA.log ha
    exact ⟨(in0 _ hA.ctx.inl).trans hl.1, fun c hc k hk => (in0 k (hA.ctx.note hc hk).1).trans (hl.2 c hc k hk)⟩
  have logB : b ≠ [] → LogIs (imgF M) 2 4 b := fun hb => by
    have hl := hB.log hb
    exact ⟨(in2 _ hB.ctx.inl).trans hl.1, fun c hc k hk => (in2 k (hB.ctx.note hc hk).1).trans (hl.2 c hc k hk)⟩
  have freeA : a = [] → imgF M (logAt 0) = 0 := fun ha => by rw [in0 _ hA.ctx.inl, hA.free ha]; rfl
  have freeB : b = [] → imgF M (logAt 2) = 0 := fun hb => by rw [in2 _ hB.ctx.inl, hB.free hb]; rfl
  -- what one log's steps make of each word
  have one : ∀ (s : Nat) (cs : List Chg) (g : Nat → Int) (k : Nat), rightP cs = 0 → s < 4 → runW k (.sure (g k)) (makingP (logAt s) cs) = .sure (overC (overC g cs) [((logAt s : Int), 0)] k) := fun s cs g k hr hs => by
    unfold makingP
    rw [runW_append, phase_all (strip_real (sureP_real _)) (rightP_once hr) (rightP_inside hr) g k, phase_all (strip_real (sureP_real _)) (once_one _ _) (one_inside (by have : logAt s = 296 + 248 * s := rfl; omega)) _ k]
  have fitA : StpsFit (makingP (logAt 0) a) := making_fit (r := ⟨logAt 0, 3, a⟩) ⟨ra, oka, 0, by omega, rfl⟩
  have fitB : StpsFit (makingP (logAt 2) b) := making_fit (r := ⟨logAt 2, 4, b⟩) ⟨rb, okb, 2, by omega, rfl⟩
  have key : ∀ (k : Nat) (t : Nat) (c : Chg) (cs : List Chg), rightP cs = 0 → c ∈ cs → c.1 = (k : Int) → t < 4 → k ≠ logAt t := fun k t c cs hr hc hk ht => (openI_far ht (by rw [← hk]; exact okP_open (rightP_ok hr).2 c hc)).2.2
  have nat : ∀ (c : Chg) (cs : List Chg), rightP cs = 0 → c ∈ cs → ∃ k : Nat, c.1 = (k : Int) ∧ k < 2824 := fun c cs hr hc => by
    have := rightP_inside hr c hc
    exact ⟨c.1.toNat, by omega, by omega⟩
  by_cases ha : a = []
  · by_cases hb : b = []
    · obtain ⟨e1, e2, e3⟩ := spec_at hM.1 (good_none hh fun s hs => by
        rcases (show s = 0 ∨ s = 1 ∨ s = 2 ∨ s = 3 by omega) with rfl | rfl | rfl | rfl
        · exact freeA ha
        · exact z1
        · exact freeB hb
        · exact z3) hr
      have e : runP M (making []) = (M, 0) := rfl
      rw [e] at e1 e2
      subst e1
      subst ha hb
      exact ⟨e2, by rw [e3, if_pos e2]; rfl, freeA rfl, freeB rfl, fun c hc => (by cases hc), fun c hc => (by cases hc)⟩
    · obtain ⟨e1, e2, e3⟩ := spec_at hM.1 (good_one hh (by omega : 2 < 4) (fun s hs hne => by
        rcases (show s = 0 ∨ s = 1 ∨ s = 3 by omega) with rfl | rfl | rfl
        · exact freeA ha
        · exact z1
        · exact z3) (logB hb) (by decide) rb) hr
      rw [making_one] at e1 e2
      obtain ⟨f1, f2⟩ := run_free hM hs fitB (fun k _ => one 2 b (imgF M) k rb (by omega))
      rw [← e1] at f2
      rw [← e2] at f1
      refine ⟨f1, by rw [e3, if_pos f1, if_pos ha, if_neg hb]; rfl, ?_, ?_, fun c hc => ?_, fun c hc => (by rw [ha] at hc; cases hc)⟩
      · have := f2.read 296 (by omega)
        rw [over_one, if_neg (by omega), overC_out fun c hc e => key 296 0 c b rb hc e (by omega) rfl] at this
        exact this.trans (freeA ha)
      · have := f2.read 792 (by omega)
        rw [over_one, if_pos (by omega)] at this
        exact this
      · obtain ⟨k, hk, hk2⟩ := nat c b rb hc
        have := f2.read k hk2
        rw [over_one, if_neg (key k 2 c b rb hc hk (by omega)), overC_in (rightP_once rb) hc hk] at this
        rw [hk]; exact this
  · by_cases hb : b = []
    · obtain ⟨e1, e2, e3⟩ := spec_at hM.1 (good_one hh (by omega : 0 < 4) (fun s hs hne => by
        rcases (show s = 1 ∨ s = 2 ∨ s = 3 by omega) with rfl | rfl | rfl
        · exact z1
        · exact freeB hb
        · exact z3) (logA ha) (by decide) ra) hr
      rw [making_one] at e1 e2
      obtain ⟨f1, f2⟩ := run_free hM hs fitA (fun k _ => one 0 a (imgF M) k ra (by omega))
      rw [← e1] at f2
      rw [← e2] at f1
      refine ⟨f1, by rw [e3, if_pos f1, if_neg ha, if_pos hb]; rfl, ?_, ?_, fun c hc => (by rw [hb] at hc; cases hc), fun c hc _ => ?_⟩
      · have := f2.read 296 (by omega)
        rw [over_one, if_pos (by omega)] at this
        exact this
      · have := f2.read 792 (by omega)
        rw [over_one, if_neg (by omega), overC_out fun c hc e => key 792 2 c a ra hc e (by omega) rfl] at this
        exact this.trans (freeB hb)
      · obtain ⟨k, hk, hk2⟩ := nat c a ra hc
        have := f2.read k hk2
        rw [over_one, if_neg (key k 0 c a ra hc hk (by omega)), overC_in (rightP_once ra) hc hk] at this
        rw [hk]; exact this
    · obtain ⟨e1, e2, e3⟩ := spec_at hM.1 (good_two hh z1 z3 (logA ha) (logB hb) ra rb) hr
      have em : making [⟨logAt 0, 3, a⟩, ⟨logAt 2, 4, b⟩] = makingP (logAt 0) a ++ makingP (logAt 2) b := by simp [making]
      rw [em] at e1 e2
      have fit : StpsFit (makingP (logAt 0) a ++ makingP (logAt 2) b) := fun x hx => by
        rcases List.mem_append.1 hx with h | h
        · exact fitA x h
        · exact fitB x h
      obtain ⟨f1, f2⟩ := run_free hM hs fit (fun k _ => by
        rw [runW_append, one 0 a (imgF M) k ra (by omega), one 2 b (overC (overC (imgF M) a) [((logAt 0 : Int), 0)]) k rb (by omega)])
      rw [← e1] at f2
      rw [← e2] at f1
      refine ⟨f1, by rw [e3, if_pos f1, if_neg ha, if_neg hb]; rfl, ?_, ?_, fun c hc => ?_, fun c hc hno => ?_⟩
      · have := f2.read 296 (by omega)
        rw [over_one, if_neg (by omega), overC_out fun c hc e => key 296 0 c b rb hc e (by omega) rfl, over_one, if_pos (by omega)] at this
        exact this
      · have := f2.read 792 (by omega)
        rw [over_one, if_pos (by omega)] at this
        exact this
      · obtain ⟨k, hk, hk2⟩ := nat c b rb hc
        have := f2.read k hk2
        rw [over_one, if_neg (key k 2 c b rb hc hk (by omega)), overC_in (rightP_once rb) hc hk] at this
        rw [hk]; exact this
      · obtain ⟨k, hk, hk2⟩ := nat c a ra hc
        have := f2.read k hk2
        rw [over_one, if_neg (key k 2 c a ra hc hk (by omega)), overC_out (fun d hd => by rw [← hk]; exact hno d hd), over_one, if_neg (key k 0 c a ra hc hk (by omega)), overC_in (rightP_once ra) hc hk] at this
        rw [hk]; exact this

end Go.Proofs.Ytfalchacdebdpaa
