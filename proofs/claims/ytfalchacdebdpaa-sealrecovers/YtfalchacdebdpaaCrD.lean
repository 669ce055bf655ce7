/- Recovering, in plain words: what it makes of a memory in whose one log changes are, or none. -/
import Derived.Test.YtfalchacdebdpaaCrC
namespace Go.Proofs.Ytfalchacdebdpaa

def imgL (g : Nat → Int) : List Int := (List.range 2824).map g
theorem imgL_len (g : Nat → Int) : (imgL g).length = 2824 := by unfold imgL; rw [List.length_map, List.length_range]
theorem imgL_at (g : Nat → Int) (i : Nat) (hi : i < 2824) : (imgL g).getD i 0 = g i := by
  unfold imgL
  rw [List.getD_eq_getElem?_getD, List.getElem?_map, List.getElem?_range hi]; rfl
theorem fresh_of (xs : List Int) (g : Nat → Int) (hl : xs.length = 2824) (h : ∀ i, i < 2824 → xs.getD i 0 = g i) : SureM (fresh xs) g := ⟨hl, fun k hk => by
  have e : (fresh xs).word k = ⟨xs.getD ((k : Int)).toNat 0, none, none⟩ := rfl
  rw [e, Int.toNat_natCast, h k hk]; rfl⟩
theorem fresh_sure (g : Nat → Int) : SureM (fresh (imgL g)) g := fresh_of _ g (imgL_len g) (imgL_at g)

theorem run_words {M : Mem} {ss : List Stp} (h : (runP M ss).2 = 0) (k : Nat) (hk : k < M.sure.length) : (runP M ss).1.word k = runW k (M.word k) ss := by
  obtain ⟨n, _, h2, h3⟩ := runP_words M ss
  rw [h3 k hk, h2 h, List.take_of_length_le (Nat.le_refl _)]
theorem fits_all {ss : List Stp} (h : StpsFit ss) {M : Mem} (hl : M.sure.length = 2824) : ∀ s ∈ ss, s.fits M.sure.length := fun s hs => by rw [hl]; exact (h s hs).2
theorem run_free {M : Mem} {g : Nat → Int} {ss : List Stp} (hM : SureM M g) (hs : M.stops = false) (h : StpsFit ss) {g' : Nat → Int} (hw : ∀ k : Nat, k < 2824 → runW k (.sure (g k)) ss = .sure (g' k)) : (runP M ss).2 = 0 ∧ SureM (runP M ss).1 g' := by
  have h1 := runP_free M ss hs (fits_all h hM.1)
  refine ⟨h1, (runP_len M ss).trans hM.1, fun k hk => ?_⟩
  rw [run_words h1 k (by rw [hM.1]; exact hk), hM.2 k hk]; exact hw k hk
theorem runP_stops (M : Mem) (ss : List Stp) : (runP M ss).1.stops = M.stops := by
  induction ss generalizing M with
  | nil => rfl
  | cons s ss ih =>
    by_cases h : M.ans s = 0
    · rw [runP_ok h, ih]; exact (act_stops M s).1
    · rw [runP_no h]; exact (act_stops M s).1

/-- An image with the plan's head, no log of which is sealed. -/
structure Base (g0 : Nat → Int) : Prop where
  head : ∀ j, j < 8 → g0 j = headN j
  zero : ∀ s, s < 4 → g0 (logAt s) = 0

theorem SureM.ext {M : Mem} {g : Nat → Int} (h : SureM M g) {k : Nat} (hk : k < 2824) : imgF M k = g k := h.read k hk

section
variable {s : Nat} {num : Int} {cs : List Chg} {g0 g : Nat → Int}

theorem Ctx.far (h : Ctx s num cs g0) {k : Nat} (hk : k < 8 ∨ ∃ t, t < 4 ∧ t ≠ s ∧ k = logAt t) : k < 2824 ∧ ¬ inLog s k ∧ ∀ c ∈ cs, c.1 ≠ (k : Int) := by
  have hs := h.slot
  have e : logAt s = 296 + 248 * s := rfl
  refine ⟨?_, ?_, fun c hc => ?_⟩
  · rcases hk with hk | ⟨t, ht, hne, rfl⟩
    · omega
    · have : logAt t = 296 + 248 * t := rfl; omega
  · unfold inLog
    rcases hk with hk | ⟨t, ht, hne, rfl⟩
    · omega
    · have : logAt t = 296 + 248 * t := rfl; omega
  · have h1 := okP_open (rightP_ok h.right).2 c hc
    unfold openI at h1
    rcases hk with hk | ⟨t, ht, hne, rfl⟩
    · omega
    · have : logAt t = 296 + 248 * t := rfl; omega
theorem idle_of (h : Ctx s num cs g0) (b : Base g0) (hg : StA s g0 g ∨ StC s cs g0 g) : GoodLogs 2824 g [] := by
  have key : ∀ k, (k < 8 ∨ ∃ t, t < 4 ∧ t ≠ s ∧ k = logAt t) → g k = g0 k := fun k hk => by
    obtain ⟨h1, h2, h3⟩ := h.far hk
    rcases hg with hg | hg
    · exact hg.2 k h1 h2
    · rw [hg.2 k h1 h2]; exact overC_out h3
  refine good_none (fun j hj => (key j (.inl hj)).trans (b.head j hj)) fun t ht => ?_
  by_cases e : t = s
  · subst e; rcases hg with hg | hg <;> exact hg.1
  · rw [key _ (.inr ⟨t, ht, e, rfl⟩)]; exact b.zero t ht
theorem one_of (h : Ctx s num cs g0) (b : Base g0) (hg : StB s num cs g0 g) : GoodLogs 2824 g [⟨logAt s, num, cs⟩] := by
  have key : ∀ k, (k < 8 ∨ ∃ t, t < 4 ∧ t ≠ s ∧ k = logAt t) → g k = g0 k := fun k hk => by
    obtain ⟨h1, h2, h3⟩ := h.far hk
    rcases hg.2 k h1 h2 with e | ⟨c, hc, e, _⟩
    · exact e
    · exact absurd e (h3 c hc)
  exact good_one (fun j hj => (key j (.inl hj)).trans (b.head j hj)) h.slot (fun t ht e => (key _ (.inr ⟨t, ht, e, rfl⟩)).trans (b.zero t ht)) hg.1 h.num h.right

theorem spec_at {M M' : Mem} {k r : Int} {rs : List Rec} (hl : M.sure.length = 2824) (hg : GoodLogs 2824 (imgF M) rs) (h : RecSpec M k r M') : M' = (runP M (making rs)).1 ∧ r = (runP M (making rs)).2 ∧ k = if r = 0 then (rs.length : Int) else 0 := by
  have hg' : GoodLogs M.sure.length (fun i => M.read i) rs := by rw [hl]; exact hg
  rcases h with ⟨hn, _⟩ | ⟨rs', h1, h2⟩
  · exact absurd ⟨rs, hg'⟩ hn
  · obtain rfl := good_one_way hg' h1; exact h2

theorem rec_idle {M M' : Mem} {k r : Int} (hM : SureM M (imgF M)) (h : Ctx s num cs g0) (b : Base g0) (hg : StA s g0 (imgF M) ∨ StC s cs g0 (imgF M)) (hr : RecSpec M k r M') : k = 0 ∧ r = 0 ∧ M' = M := by
  obtain ⟨h1, h2, h3⟩ := spec_at hM.1 (idle_of h b hg) hr
  have e : runP M (making []) = (M, 0) := rfl
  rw [e] at h1 h2
  exact ⟨by rw [h3, if_pos h2]; rfl, h2, h1⟩

theorem rec_spec {M M' : Mem} {k r : Int} (hM : SureM M (imgF M)) (h : Ctx s num cs g0) (b : Base g0) (hg : StB s num cs g0 (imgF M)) (hr : RecSpec M k r M') : M' = (runP M (makingP (logAt s) cs)).1 ∧ r = (runP M (makingP (logAt s) cs)).2 ∧ k = if r = 0 then 1 else 0 := by
  have := spec_at hM.1 (one_of h b hg) hr
  rw [making_one] at this; exact this

theorem Ctx.ok (h : Ctx s num cs g0) (hok : ChgOk cs) : Rec.Ok ⟨logAt s, num, cs⟩ := ⟨h.right, hok, s, h.slot, rfl⟩
theorem strip_making (lg : Int) (cs : List Chg) : strip (makingP lg cs) = makingP lg cs := strip_real fun o ho => by
  unfold makingP at ho
  rcases List.mem_append.1 ho with ho | ho <;> exact sureP_real _ o ho
theorem strip_take {ss : List Stp} (h : strip ss = ss) (n : Nat) : strip (ss.take n) = ss.take n := strip_real fun o ho => by
  have := List.filter_eq_self.1 h o (List.mem_of_mem_take ho)
  simpa using this

theorem rec_free {M M' : Mem} {k r : Int} (hM : SureM M (imgF M)) (hs : M.stops = false) (h : Ctx s num cs g0) (b : Base g0) (hok : ChgOk cs) (hg : StB s num cs g0 (imgF M)) (hr : RecSpec M k r M') :
    k = 1 ∧ r = 0 ∧ SureM M' (imgF M') ∧ StC s cs g0 (imgF M') ∧ M'.stops = false ∧ M'.calls ≤ M.calls + 829 := by
  obtain ⟨h1, h2, h3⟩ := rec_spec hM h b hg hr
  have hfit : StpsFit (makingP (logAt s) cs) := making_fit (h.ok hok)
  have hml : (makingP (logAt s) cs).length ≤ 829 := making_len (h.ok hok)
  have hw : ∀ k : Nat, k < 2824 → runW k (.sure (imgF M k)) (makingP (logAt s) cs) = .sure (overC (overC (imgF M) cs) [((logAt s : Int), 0)] k) := fun k hk => by
    unfold makingP
    rw [runW_append, phase_all (strip_real (sureP_real _)) (rightP_once h.right) (rightP_inside h.right) (imgF M) k, phase_all (strip_real (sureP_real _)) (once_one _ _) (h.oneIn 0) _ k]
  obtain ⟨e1, e2⟩ := run_free hM hs hfit hw
  rw [← h1] at e2
  rw [← h2] at e1
  have hw2 : ∀ k : Nat, k < 2824 → runW k (.sure (imgF M k)) (makingP (logAt s) cs) = .sure (imgF M' k) := fun k hk => by rw [hw k hk, e2.ext hk]
  refine ⟨by rw [h3, if_pos e1], e1, e2.self, again_all h hg (strip_making _ _) hw2, by rw [h1, runP_stops]; exact hs, ?_⟩
  have := runP_calls M (makingP (logAt s) cs)
  rw [h1]; omega

theorem rec_crash {M M' : Mem} {k r : Int} (ks : List Bool) (hM : SureM M (imgF M)) (hin : M'.In) (h : Ctx s num cs g0) (b : Base g0) (hok : ChgOk cs) (hg : StB s num cs g0 (imgF M)) (hr : RecSpec M k r M') :
    (r = 0 ∨ r = 14) ∧ SureM (M'.crash ks) (imgF (M'.crash ks)) ∧ (StB s num cs g0 (imgF (M'.crash ks)) ∨ StC s cs g0 (imgF (M'.crash ks))) ∧ M'.calls ≤ M.calls + 829 := by
  obtain ⟨h1, h2, h3⟩ := rec_spec hM h b hg hr
  have hfit : StpsFit (makingP (logAt s) cs) := making_fit (h.ok hok)
  have hml : (makingP (logAt s) cs).length ≤ 829 := making_len (h.ok hok)
  have hl : M'.sure.length = 2824 := by rw [h1, runP_len]; exact hM.1
  obtain ⟨c1, c2⟩ := crash_sure hin hl ks
  obtain ⟨n, -, -, hw⟩ := runP_words M (makingP (logAt s) cs)
  refine ⟨by rw [h2]; exact runP_or M _ (fits_all hfit hM.1), c1, ?_, ?_⟩
  · refine again_part h hg (strip_take (strip_making _ _) n) fun k hk => ?_
    have := c2 k hk
    rw [← h1] at hw
    rw [hw k (by rw [hM.1]; exact hk), hM.2 k hk] at this
    exact this
  · have := runP_calls M (makingP (logAt s) cs)
    rw [h1]; omega
end

end Go.Proofs.Ytfalchacdebdpaa
