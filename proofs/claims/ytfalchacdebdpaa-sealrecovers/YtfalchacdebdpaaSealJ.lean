/- What logs are good, in plain words; Recover's contract. -/
import Derived.Test.YtfalchacdebdpaaSealI
import Derived.Test.YtfalchacdebdpaaDoes
import Derived.Test.YtfalchacdebdpaaLoad
import Derived.Test.YtfalchacdebdpaaCrA
namespace Go.Proofs.Ytfalchacdebdpaa
open Go.RowKit Go.Maps Go.ChangeMaps Go.Shelf

/-- A log's changes may be, and it lies where a log lies. -/
def Rec.Ok (r : Rec) : Prop := rightP r.cs = 0 ∧ ChgOk r.cs ∧ ∃ s, s < 4 ∧ r.at_ = logAt s
/-- The logs of an image that are sealed, by their statuses in order. -/
def GoodLogs (n : Nat) (f : Nat → Int) (rs : List Rec) : Prop :=
  rightB n f = true ∧ (∀ s, s < 4 → ¬ slotBad f s) ∧ rs.Perm (recsTo f 4) ∧ rs.Pairwise (fun a b => a.num < b.num)

theorem rightB_len {n : Nat} {f : Nat → Int} (h : rightB n f = true) : n = 2824 := by
  unfold rightB at h
  simp only [Bool.and_eq_true, decide_eq_true_eq] at h
  exact h.1

theorem chgsOf_at (f : Nat → Int) (n i : Nat) (hi : i < n) : (chgsOf f n).getD i (0, 0) = chgOf f i := by simp [chgsOf, hi]
theorem recs_ok {f : Nat → Int} (hf : ∀ i, i < 2824 → 0 ≤ f i ∧ f i ≤ 18446744073709551615) (h : ∀ s, s < 4 → ¬ slotBad f s) : ∀ r ∈ recsTo f 4, r.Ok := by
  intro r hr
  unfold recsTo at hr
  obtain ⟨s, hs, hr⟩ := List.mem_flatMap.1 hr
  have hs4 := List.mem_range.1 hs
  unfold slotRecs at hr
  split at hr
  · cases hr
  · rename_i hz
    obtain rfl : r = ⟨logAt s, f (logAt s), chgsAt f s⟩ := by simpa using hr
    have hb := h s hs4
    unfold slotBad at hb
    have h1 : rightP (chgsAt f s) = 0 := Classical.byContradiction fun e => hb ⟨hz, .inr e⟩
    have h2 : ¬ 120 < f (logAt s + 1) := fun e => hb ⟨hz, .inl e⟩
    refine ⟨h1, ?_, s, hs4, rfl⟩
    intro i hi
    unfold chgsAt at hi ⊢
    dsimp only at hi ⊢
    rw [chgsOf_len] at hi
    rw [chgsOf_at _ _ _ hi]
    have hla : logAt s = 296 + 248 * s := rfl
    have r1 := hf (logAt s + (8 + 2 * i)) (by omega)
    have r2 := hf (logAt s + (8 + 2 * i + 1)) (by omega)
    exact ⟨WalkArith.wf_i64 (by unfold chgOf; dsimp only; omega), WalkArith.wf_u64 r2⟩

theorem getD_mem' {cs : List Chg} {c : Chg} (h : c ∈ cs) : ∃ i, i < cs.length ∧ cs.getD i (0, 0) = c := by
  obtain ⟨i, hi, rfl⟩ := List.mem_iff_getElem.1 h
  exact ⟨i, hi, by simp [hi]⟩

/-- Steps that are numbers of their kinds, at words of the plan. -/
def StpsFit (ss : List Stp) : Prop := ∀ s ∈ ss, s.Ok ∧ s.fits 2824
theorem sureP_fit {cs : List Chg} (hok : ChgOk cs) (hin : Inside cs) : StpsFit (sureP cs) := by
  intro s hs
  rcases sureP_kinds cs s hs with ⟨_, c, hc, rfl⟩ | ⟨_, a, ha, rfl⟩ | rfl
  · obtain ⟨i, hi, e⟩ := getD_mem' hc
    have := hok i hi
    rw [e] at this
    exact ⟨this, .inl ⟨.inl rfl, hin c hc⟩⟩
  · have hm := (linesOf_mem (cs.map (·.1)) (fun x hx => by obtain ⟨d, hd, rfl⟩ := List.mem_map.1 hx; exact hin d hd) a).1 ha
    obtain ⟨x, hx, rfl⟩ := hm
    obtain ⟨d, hd, rfl⟩ := List.mem_map.1 hx
    have := hin d hd
    exact ⟨⟨WalkArith.wf_i64 (by dsimp only; omega), WalkArith.wf_u64 (by dsimp only; omega)⟩, .inl ⟨.inr rfl, by dsimp only; omega, by dsimp only; omega⟩⟩
  · exact ⟨⟨by decide, by decide⟩, .inr rfl⟩
theorem rightP_inside {cs : List Chg} (h : rightP cs = 0) : Inside cs := fun c hc => by
  have := okP_open (rightP_ok h).2 c hc
  unfold openI at this; omega
theorem rightP_once {cs : List Chg} (h : rightP cs = 0) : Once cs := okP_once (rightP_ok h).2
theorem one_inside {a v : Int} (h : 0 ≤ a ∧ a < 2824) : Inside [(a, v)] := fun c hc => by
  obtain rfl : c = (a, v) := by simpa using hc
  exact h
theorem one_ok {a v : Int} (h : 0 ≤ a ∧ a < 2824) (hv : 0 ≤ v ∧ v ≤ 18446744073709551615) : ChgOk [(a, v)] := fun i hi => by
  obtain rfl : i = 0 := by simp only [List.length_cons, List.length_nil] at hi; omega
  exact ⟨WalkArith.wf_i64 (by simp; omega), WalkArith.wf_u64 (by simpa using hv)⟩
theorem making_fit {r : Rec} (h : r.Ok) : StpsFit (makingP r.at_ r.cs) := by
  obtain ⟨h1, h2, s, hs, e⟩ := h
  have hla : logAt s = 296 + 248 * s := rfl
  intro x hx
  unfold makingP at hx
  rcases List.mem_append.1 hx with hx | hx
  · exact sureP_fit h2 (rightP_inside h1) x hx
  · exact sureP_fit (one_ok (by omega) (by omega)) (one_inside (by omega)) x hx
theorem making_len {r : Rec} (h : r.Ok) : (makingP r.at_ r.cs).length ≤ 829 := by
  have l1 := sureP_len r.cs
  have l2 := sureP_len [(r.at_, 0)]
  have := (rightP_ok h.1).1
  simp only [List.length_cons, List.length_nil] at l2
  unfold makingP; rw [List.length_append]; omega

theorem runP_ok {M : Mem} {s : Stp} (h : M.ans s = 0) (ss : List Stp) : runP M (s :: ss) = runP (M.act s) ss := by
  show (if M.ans s = 0 then _ else _) = _
  rw [if_pos h]
theorem runP_no {M : Mem} {s : Stp} (h : ¬ M.ans s = 0) (ss : List Stp) : runP M (s :: ss) = (M.act s, M.ans s) := by
  show (if M.ans s = 0 then _ else _) = _
  rw [if_neg h]
theorem runP_app (M : Mem) (a b : List Stp) (h : (runP M a).2 = 0) : runP M (a ++ b) = runP (runP M a).1 b := by
  induction a generalizing M with
  | nil => rfl
  | cons s ss ih =>
    by_cases hs : M.ans s = 0
    · rw [runP_ok hs] at h
      rw [List.cons_append, runP_ok hs, runP_ok hs]
      exact ih _ h
    · rw [runP_no hs] at h; exact absurd h hs
theorem runP_cut (M : Mem) (a b : List Stp) (h : (runP M a).2 ≠ 0) : runP M (a ++ b) = runP M a := by
  induction a generalizing M with
  | nil => exact absurd rfl h
  | cons s ss ih =>
    by_cases hs : M.ans s = 0
    · rw [runP_ok hs] at h
      rw [List.cons_append, runP_ok hs, runP_ok hs]
      exact ih _ h
    · rw [List.cons_append, runP_no hs, runP_no hs]

/-- All the steps of logs. -/
def making (rs : List Rec) : List Stp := rs.flatMap fun r => makingP r.at_ r.cs
theorem making_append (a b : List Rec) : making (a ++ b) = making a ++ making b := by simp [making]
theorem making_one (r : Rec) : making [r] = makingP r.at_ r.cs := by simp [making]
theorem making_lens {rs : List Rec} (h : ∀ r ∈ rs, r.Ok) : (making rs).length ≤ rs.length * 829 := by
  induction rs with
  | nil => simp [making]
  | cons r rs ih =>
    have h1 := making_len (h r (by simp))
    have h2 := ih fun x hx => h x (by simp [hx])
    have e : making (r :: rs) = makingP r.at_ r.cs ++ making rs := rfl
    rw [e, List.length_append, List.length_cons]; omega

/-- What Recover answers, and the memory behind it. -/
def RecSpec (M : Mem) (k r : Int) (M' : Mem) : Prop :=
  (¬ (∃ rs, GoodLogs M.sure.length (fun i => M.read i) rs) ∧ k = 0 ∧ r = 15 ∧ M' = M) ∨
  ∃ rs, GoodLogs M.sure.length (fun i => M.read i) rs ∧ M' = (runP M (making rs)).1 ∧ r = (runP M (making rs)).2 ∧ k = if r = 0 then (rs.length : Int) else 0

theorem sorted_strict {ys : List RecX} (h : ys.Pairwise (fun a b => a.num ≤ b.num)) (ht : twiceP ys = false) : ys.Pairwise (fun a b => a.num < b.num) := by
  have ha : apartTo ys ys.length := by
    exact twiceP_no.1 ht
  refine List.pairwise_iff_getElem.2 fun i j hi hj hij => ?_
  have h0 := List.pairwise_iff_getElem.1 h
  have hn := ha i (by omega)
  rw [getElem!_pos _ i hi, getElem!_pos _ (i + 1) (by omega)] at hn
  have h1 := h0 i (i + 1) hi (by omega) (by omega)
  by_cases e : j = i + 1
  · subst e; omega
  · have h2 := h0 (i + 1) j (by omega) hj (by omega); omega

theorem twice_bad {ys : List RecX} {rs : List Rec} (hp : (ys.map RecX.log).Perm rs) (hs : rs.Pairwise (fun a b => a.num < b.num)) : twiceP ys = false := by
  have h1 : (rs.map Rec.num).Nodup := List.pairwise_map.2 (hs.imp fun {a b} h => by omega)
  have h2 : ((ys.map RecX.log).map Rec.num).Nodup := (hp.map Rec.num).nodup_iff.2 h1
  rw [twiceP_no]
  intro i hi e
  rw [getElem!_pos _ i (by omega), getElem!_pos _ (i + 1) hi] at e
  have := List.pairwise_iff_getElem.1 h2 i (i + 1) (by simp; omega) (by simpa using hi) (by omega)
  simp only [List.getElem_map] at this
  exact this e

end Go.Proofs.Ytfalchacdebdpaa
