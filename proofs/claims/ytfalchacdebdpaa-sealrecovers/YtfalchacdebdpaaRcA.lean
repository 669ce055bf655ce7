/- What making sealed logs leaves, word by word; that two with one number may not be. -/
import Derived.Test.YtfalchacdebdpaaCrD
import Derived.Test.YtfalchacdebdpaaRow
namespace Go.Proofs.Ytfalchacdebdpaa
open Go.RowKit Go.Maps Go.ChangeMaps
set_option linter.unusedVariables false

def updC (g : Nat → Int) (c : Chg) : Nat → Int := updN g c.1.toNat c.2
def updCs (g : Nat → Int) (cs : List Chg) : Nat → Int := cs.foldl updC g
def updRec (g : Nat → Int) (r : Rec) : Nat → Int := updN (updCs g r.cs) r.at_.toNat 0
def updRecs (g : Nat → Int) (rs : List Rec) : Nat → Int := rs.foldl updRec g
theorem overC_cons (g : Nat → Int) (c : Chg) (cs : List Chg) (k : Nat) : overC g (c :: cs) k = if c.1 = (k : Int) then c.2 else overC g cs k := by
  unfold overC
  by_cases e : c.1 = (k : Int)
  · simp [e]
  · simp [e]
theorem updCs_over : ∀ (cs : List Chg) (g : Nat → Int), Once cs → Inside cs → ∀ k : Nat, updCs g cs k = overC g cs k
  | [], g, _, _, k => rfl
  | c :: cs, g, h1, hin, k => by
    have h1' : Once cs := by unfold Once at h1 ⊢; rw [List.map_cons, List.pairwise_cons] at h1; exact h1.2
    have hc : ∀ d ∈ cs, c.1 ≠ d.1 := by
      unfold Once at h1
      rw [List.map_cons, List.pairwise_cons] at h1
      exact fun d hd => h1.1 d.1 (List.mem_map_of_mem hd)
    have e1 : updCs g (c :: cs) k = updCs (updC g c) cs k := rfl
    rw [e1, updCs_over cs (updC g c) h1' (fun d hd => hin d (List.mem_cons_of_mem _ hd)) k, overC_cons]
    have hci := hin c (List.mem_cons_self ..)
    by_cases e : c.1 = (k : Int)
    · rw [if_pos e, overC_out fun d hd e2 => hc d hd (e.trans e2.symm)]
      unfold updC updN
      rw [if_pos (by omega)]
    · rw [if_neg e]
      have e2 : ∀ k', k' = k → updC g c k' = g k' := fun k' hk => by unfold updC updN; rw [if_neg (by omega)]
      rcases overC_or (g := updC g c) h1' k with ⟨d, hd, hdk, h3⟩ | ⟨h3, h4⟩
      · rw [h3, overC_in h1' hd hdk]
      · rw [h4, overC_out h3, e2 k rfl]
theorem strip_sure (cs : List Chg) : strip (sureP cs) = sureP cs := strip_real (sureP_real cs)
theorem runW_app (k : Int) (x : Wst) (a b : List Stp) : runW k x (a ++ b) = runW k (runW k x a) b := by unfold runW; rw [List.foldl_append]
theorem runW_rec {r : Rec} (h : r.Ok) (g : Nat → Int) (k : Nat) : runW k (.sure (g k)) (makingP r.at_ r.cs) = .sure (updRec g r k) := by
  obtain ⟨hr, hok, s, hs, hat⟩ := h
  have ho := rightP_once hr
  have hin := rightP_inside hr
  unfold makingP
  rw [runW_app, phase_all (strip_sure r.cs) ho hin g k]
  have h2 := phase_all (strip_sure [(r.at_, 0)]) (once_one _ _) (one_inside (by rw [hat]; unfold logAt; omega)) (overC g r.cs) k
  rw [h2]
  have e : r.at_ = ((logAt s : Nat) : Int) := hat
  have h3 := over_one (overC g r.cs) (logAt s) 0 k
  rw [← e] at h3
  rw [h3]
  unfold updRec updN
  have e4 : r.at_.toNat = logAt s := by rw [e]; rfl
  rw [e4]
  congr 1
  split
  · rfl
  · exact (updCs_over r.cs g ho hin k).symm
theorem runW_recs : ∀ (rs : List Rec) (g : Nat → Int), (∀ r ∈ rs, r.Ok) → ∀ k : Nat, runW k (.sure (g k)) (making rs) = .sure (updRecs g rs k)
  | [], g, _, k => rfl
  | r :: rs, g, h, k => by
    have e : making (r :: rs) = makingP r.at_ r.cs ++ making rs := rfl
    rw [e, runW_app, runW_rec (h r (List.mem_cons_self ..)) g k, runW_recs rs (updRec g r) (fun x hx => h x (List.mem_cons_of_mem _ hx)) k]
    rfl
theorem good_ok {g : Nat → Int} {rs : List Rec} (hf : ∀ i, i < 2824 → 0 ≤ g i ∧ g i ≤ 18446744073709551615) (h : GoodLogs 2824 g rs) : ∀ r ∈ rs, r.Ok := fun r hr =>
  recs_ok hf h.2.1 r (h.2.2.1.mem_iff.1 hr)
theorem making_fits {rs : List Rec} (h : ∀ r ∈ rs, r.Ok) : StpsFit (making rs) := fun s hs => by
  unfold making at hs
  obtain ⟨r, hr, h2⟩ := List.mem_flatMap.1 hs
  exact making_fit (h r hr) s h2
/-- What recovering leaves of a memory whose words are all sure. -/
theorem rec_all {M M' : Mem} {k r : Int} {g : Nat → Int} {rs : List Rec} (hM : SureM M g) (hs : M.stops = false) (hf : ∀ i, i < 2824 → 0 ≤ g i ∧ g i ≤ 18446744073709551615) (hg : GoodLogs 2824 g rs) (e : ∀ i : Nat, M.read i = g i) (hr : RecSpec M k r M') : k = rs.length ∧ r = 0 ∧ SureM M' (updRecs g rs) := by
  have eg : (fun i : Nat => M.read (i : Int)) = g := funext e
  have hl := hM.1
  unfold RecSpec at hr
  rw [hl, eg] at hr
  rcases hr with ⟨h1, _⟩ | ⟨rs', h1, h2, h3, h4⟩
  · exact absurd ⟨rs, hg⟩ h1
  · obtain rfl := good_one_way hg h1
    have hok := good_ok hf hg
    obtain ⟨f1, f2⟩ := run_free hM hs (making_fits hok) (g' := updRecs g rs) fun k hk => runW_recs rs g hok k
    rw [f1] at h3
    rw [h3, if_pos rfl] at h4
    exact ⟨h4, h3, by rw [h2]; exact f2⟩
theorem rec_bad {M M' : Mem} {k r : Int} {g : Nat → Int} (e : (fun i : Nat => M.read (i : Int)) = g) (hg : ¬ ∃ rs, GoodLogs M.sure.length g rs) (hr : RecSpec M k r M') : k = 0 ∧ r = 15 ∧ M' = M := by
  unfold RecSpec at hr
  rw [e] at hr
  rcases hr with ⟨_, h2, h3, h4⟩ | ⟨rs', h1, _⟩
  · exact ⟨h2, h3, h4⟩
  · exact absurd ⟨rs', h1⟩ hg

/-- How far the document's Logs has come: no slot below s is wrong, and the logs lie in order. -/
structure LogsTo (g : Nat → Int) (s : Nat) (rs : List Rec) : Prop where
  ok : ∀ t, t < s → ¬ slotBad g t
  perm : rs.Perm (recsTo g s)
  rise : rs.Pairwise (fun a b => a.num < b.num)
theorem logsTo_zero (g : Nat → Int) : LogsTo g 0 [] := ⟨fun t h => absurd h (Nat.not_lt_zero t), List.Perm.refl _, List.Pairwise.nil⟩
theorem LogsTo.good {g : Nat → Int} {rs : List Rec} {n : Nat} (h : LogsTo g 4 rs) (hr : rightB n g = true) : GoodLogs n g rs := ⟨hr, h.ok, h.perm, h.rise⟩
theorem LogsTo.skip {g : Nat → Int} {s : Nat} {rs : List Rec} (h : LogsTo g s rs) (h0 : g (logAt s) = 0) : LogsTo g (s + 1) rs := by
  refine ⟨fun t ht => ?_, ?_, h.rise⟩
  · by_cases e : t = s
    · subst e; exact fun hb => hb.1 h0
    · exact h.ok t (by omega)
  · rw [recsTo_succ]
    have : slotRecs g s = [] := by unfold slotRecs; rw [if_pos h0]
    rw [this, List.append_nil]
    exact h.perm
theorem LogsTo.put {g : Nat → Int} {s : Nat} {rs a b : List Rec} (h : LogsTo g s rs) (h0 : g (logAt s) ≠ 0) (hb : ¬ slotBad g s) (e : rs = a ++ b) (ha : ∀ r ∈ a, r.num < g (logAt s)) (hbn : ∀ r ∈ b, g (logAt s) < r.num) : LogsTo g (s + 1) (a ++ ⟨logAt s, g (logAt s), chgsAt g s⟩ :: b) := by
  refine ⟨fun t ht => ?_, ?_, ?_⟩
  · by_cases e : t = s
    · subst e; exact hb
    · exact h.ok t (by omega)
  · rw [recsTo_succ]
    have e2 : slotRecs g s = [⟨logAt s, g (logAt s), chgsAt g s⟩] := by unfold slotRecs; rw [if_neg h0]
    rw [e2]
    have h1 := h.perm
    rw [e] at h1
    exact (List.perm_middle.trans (List.Perm.cons _ h1)).trans (show ([(⟨logAt s, g (logAt s), chgsAt g s⟩ : Rec)] ++ recsTo g s).Perm (recsTo g s ++ [⟨logAt s, g (logAt s), chgsAt g s⟩]) from List.perm_append_comm)
  · have h1 := h.rise
    rw [e, List.pairwise_append] at h1
    rw [List.pairwise_append, List.pairwise_cons]
    refine ⟨h1.1, ⟨hbn, h1.2.1⟩, fun x hx y hy => ?_⟩
    rcases List.mem_cons.1 hy with rfl | hy
    · exact ha x hx
    · exact h1.2.2 x hx y hy
/-- A slot that is wrong. -/
theorem no_slot {g : Nat → Int} {n s : Nat} (hs : s < 4) (h : slotBad g s) : ¬ ∃ rs, GoodLogs n g rs := fun ⟨rs, hg⟩ => hg.2.1 s hs h
/-- Two of one number. -/
theorem no_twice {g : Nat → Int} {n s : Nat} {rs : List Rec} (hs : s < 4) (h : LogsTo g s rs) (h0 : g (logAt s) ≠ 0) {r : Rec} (hr : r ∈ rs) (he : r.num = g (logAt s)) : ¬ ∃ rs, GoodLogs n g rs := fun ⟨qs, hg⟩ => by
  have hd : (recsTo g 4).Pairwise (fun a b => a.num ≠ b.num) := by
    refine hg.2.2.1.pairwise (hg.2.2.2.imp fun h => by omega) fun h => h.symm
  have hsub : List.Sublist (recsTo g (s + 1)) (recsTo g 4) := by
    have : ∀ d, List.Sublist (recsTo g (s + 1)) (recsTo g (s + 1 + d)) := fun d => by
      induction d with
      | zero => exact List.Sublist.refl _
      | succ d ih => rw [show s + 1 + (d + 1) = (s + 1 + d) + 1 by omega, recsTo_succ g (s + 1 + d)]; exact ih.trans (List.sublist_append_left _ _)
    have := this (3 - s)
    rw [show s + 1 + (3 - s) = 4 by omega] at this
    exact this
  have hd2 := hd.sublist hsub
  rw [recsTo_succ, List.pairwise_append] at hd2
  have e2 : slotRecs g s = [⟨logAt s, g (logAt s), chgsAt g s⟩] := by unfold slotRecs; rw [if_neg h0]
  exact hd2.2.2 r (h.perm.mem_iff.1 hr) _ (by rw [e2]; exact List.mem_singleton.2 rfl) he

end Go.Proofs.Ytfalchacdebdpaa
