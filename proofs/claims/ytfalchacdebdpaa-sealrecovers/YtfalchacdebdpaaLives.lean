/- Contract of lives: one change, made by its steps up to the seal, a crash, and recovering. -/
import Derived.Test.YtfalchacdebdpaaSealK
import Derived.Test.YtfalchacdebdpaaSealL
import Derived.Test.YtfalchacdebdpaaCrD
namespace Go.Proofs.Ytfalchacdebdpaa
open Go.RowKit Go.Maps Go.ChangeMaps Go.Shelf

theorem headN_wf (i : Nat) : 0 ≤ headN i ∧ headN i ≤ 18446744073709551615 := by
  unfold headN
  split
  · omega
  · split <;> omega
theorem base_head : Base headN := ⟨fun _ _ => rfl, fun s _ => by
  unfold headN logAt
  rw [if_neg (by omega), if_neg (by omega)]⟩

/-- Load of a row of 2824 words. -/
theorem load_img (G : Nat) (g : Nat → Int) (w : World) (h : RowIs w G g) (hg : ∀ i, i < 2824 → 0 ≤ g i ∧ g i ≤ 18446744073709551615) :
    Calls Try.prog 14 #[.slice (some ⟨G, 0, none⟩) 2824 2824] w fun e w' => ∃ L : Lay, e = .returned (.pointer (some ⟨L.mb, 0, none⟩)) ∧ MemIs w' L (fresh (imgL g)) ∧ (∀ j ∈ L.blocks, w.heap.size ≤ j) ∧ Below w.heap.size w w' := by
  have := load_any G 0 2824 (imgL g) w (by rw [imgL_len]; omega) (by rw [imgL_len]; omega) (fun v hv => by
    unfold imgL at hv
    obtain ⟨i, hi, rfl⟩ := List.mem_map.1 hv
    exact WalkArith.wf_u64 (hg i (List.mem_range.1 hi))) (fun i hi => by
    rw [imgL_len] at hi
    rw [Nat.zero_add, imgL_at g i hi]; exact h.cell i hi)
  rw [imgL_len] at this
  exact this

theorem StB.congr {s : Nat} {num : Int} {cs : List Chg} {g0 g g' : Nat → Int} (c : Ctx s num cs g0) (h : StB s num cs g0 g) (e : ∀ k, k < 2824 → g' k = g k) : StB s num cs g0 g' := by
  have hl := c.at_
  refine ⟨⟨(e _ (by omega)).trans h.1.1, fun d hd k hk => ?_⟩, fun k hk hi => ?_⟩
  · have := (c.note hd hk).1
    unfold inLog at this
    rw [e k (by omega)]; exact h.1.2 d hd k hk
  · rw [e k hk]; exact h.2 k hk hi

theorem sealing_fit {s : Nat} {num : Int} {cs : List Chg} {g0 : Nat → Int} (c : Ctx s num cs g0) (hn : 0 ≤ num ∧ num ≤ 18446744073709551615) (hok : ChgOk cs) : StpsFit (sealingP (logAt s) num cs) := by
  have hl := c.at_
  have hlen := (rightP_ok c.right).1
  intro x hx
  unfold sealingP at hx
  rcases List.mem_append.1 hx with hx | hx
  · refine sureP_fit (fun i hi => ?_) c.notesIn x hx
    have hm : (notesP (logAt s) cs).getD i (0, 0) ∈ notesP (logAt s) cs := getD_in hi
    rcases (notes_mem _).1 hm with e | ⟨j, hj, e | e⟩
    · rw [e]; exact ⟨WalkArith.wf_i64 (by dsimp only; omega), WalkArith.wf_u64 (by dsimp only; omega)⟩
    · rw [e]
      have := rightP_inside c.right _ (getD_in hj)
      exact ⟨WalkArith.wf_i64 (by dsimp only; omega), WalkArith.wf_u64 (by dsimp only; omega)⟩
    · rw [e]
      exact ⟨WalkArith.wf_i64 (by dsimp only; omega), (hok j hj).2⟩
  · exact sureP_fit (one_ok (by omega) hn) (c.oneIn num) x hx
theorem steps_fit {s : Nat} {num : Int} {cs : List Chg} {g0 : Nat → Int} (c : Ctx s num cs g0) (hn : 0 ≤ num ∧ num ≤ 18446744073709551615) (hok : ChgOk cs) : StpsFit (stepsP (logAt s) num cs) := by
  intro x hx
  unfold stepsP at hx
  rcases List.mem_append.1 hx with hx | hx
  · exact sealing_fit c hn hok x hx
  · exact making_fit (c.ok hok) x hx

/-- All steps up to the seal, and a crash. -/
theorem sealed_crash {s : Nat} {num : Int} {cs : List Chg} {g0 : Nat → Int} (c : Ctx s num cs g0) (hn : 0 ≤ num ∧ num ≤ 18446744073709551615) (hok : ChgOk cs) {M0 M : Mem} (h0 : SureM M0 g0) (hs : M0.stops = false) (h : (runP M0 (sealingP (logAt s) num cs)).1 = M) (hin : M.In) (ks : List Bool) :
    SureM (M.crash ks) (imgF (M.crash ks)) ∧ StB s num cs g0 (imgF (M.crash ks)) := by
  obtain ⟨e1, e2⟩ := run_free h0 hs (sealing_fit c hn hok) (fun k hk => sealing_all c (strip_real fun o ho => by
    unfold sealingP at ho
    rcases List.mem_append.1 ho with ho | ho <;> exact sureP_real _ o ho) k)
  rw [h] at e2
  obtain ⟨c1, c2⟩ := crash_sure hin e2.1 ks
  refine ⟨c1, (sealed_B c).congr c fun k hk => ?_⟩
  have := c2 k hk
  rw [e2.2 k hk] at this
  exact left_sure this

def lv : List Chg := [(1288, 7)]
theorem lv_ctx : Ctx 0 1 lv headN := ⟨by decide, by decide, by kernel_rfl, by decide⟩
theorem lv_ok : ChgOk lv := one_ok (by decide) (by decide)
theorem lv_nine : (sealingP (296 + 248 * 0) 1 lv).length = 9 := by kernel_rfl
theorem lv_all : (stepsP (296 + 248 * 0) 1 lv).length = 15 := by kernel_rfl
theorem lv_take : (stepsP (296 + 248 * 0) 1 lv).take 9 = sealingP (logAt 0) 1 lv := by kernel_rfl
theorem lv_fit : StpsFit (stepsP (296 + 248 * 0) 1 lv) := steps_fit lv_ctx (by decide) lv_ok

/-- What a step in a row of steps is, and that it is done. -/
theorem step_next {M0 Mj : Mem} {S : List Stp} {j : Nat} (hj : j < S.length) (h : runP M0 (S.take j) = (Mj, 0)) (hf : StpsFit S) (hl : M0.sure.length = 2824) (hs : M0.stops = false) :
    Mj.ans (S.getD j ⟨0, 0, 0⟩) = 0 ∧ (S.getD j ⟨0, 0, 0⟩).Ok ∧ runP M0 (S.take (j + 1)) = (Mj.act (S.getD j ⟨0, 0, 0⟩), 0) ∧ Mj.calls ≤ M0.calls + j := by
  have hm : S.getD j ⟨0, 0, 0⟩ ∈ S := by simp [hj]
  obtain ⟨h1, h2⟩ := hf _ hm
  obtain ⟨r1, r2⟩ := runP_fits h
  have hst : Mj.stops = false := by have := runP_stops M0 (S.take j); rw [h] at this; exact this.trans hs
  have ha : Mj.ans (S.getD j ⟨0, 0, 0⟩) = 0 := by rw [ans_of Mj _ (by rw [r1, hl]; exact h2)]; exact err_free Mj hst
  refine ⟨ha, h1, run_step hj h ha, ?_⟩
  rw [List.length_take] at r2; omega

theorem lv_recover {M9 : Mem} (h : runP (fresh (imgL headN)) ((stepsP (296 + 248 * 0) 1 lv).take 9) = (M9, 0)) (hin : M9.In) : SureM (M9.crash []) (imgF (M9.crash [])) ∧ StB 0 1 lv headN (imgF (M9.crash [])) := by
  rw [lv_take] at h
  exact sealed_crash lv_ctx (by decide) lv_ok (fresh_sure headN) rfl (by rw [h]) hin []

theorem lv_reads {M' : Mem} (h : SureM M' (imgF M')) (hC : StC 0 lv headN (imgF M')) : M'.sure.length = 2824 ∧ M'.read 1288 = 7 ∧ M'.read 296 = 0 := by
  refine ⟨h.1, ?_, hC.1⟩
  have := hC.2 1288 (by omega) (by decide)
  have e : overC headN lv 1288 = 7 := by decide
  rw [e] at this; exact this

theorem lv_spec {M M' : Mem} {k r : Int} (hM : SureM M (imgF M)) (hs : M.stops = false) (hg : StB 0 1 lv headN (imgF M)) (hr : RecSpec M k r M') : k = 1 ∧ r = 0 ∧ M'.sure.length = 2824 ∧ M'.read 1288 = 7 ∧ M'.read 296 = 0 := by
  obtain ⟨h1, h2, h3, h4, _⟩ := rec_free hM hs lv_ctx base_head lv_ok hg hr
  exact ⟨h1, h2, lv_reads h3 h4⟩

end Go.Proofs.Ytfalchacdebdpaa
