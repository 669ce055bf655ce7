/- lives answers true. -/
import Derived.Test.YtfalchacdebdpaaLives
import Derived.Deep.RegionHeld3
namespace Go.Proofs.Ytfalchacdebdpaa
open Go.RowKit Go.Maps Go.ChangeMaps Go.Shelf

set_option maxHeartbeats 4000000 in
set_option maxRecDepth 100000 in
theorem lives_any (w : World) : Calls Try.prog 8 #[] w fun e w' => e = .returned (.bool true) ∧ Below w.heap.size w w' := by
  have HIM := image13_any
  go_enter Try.func8, Try.ntmps8
  go_wp2_with fail
  refine (HIM _).mono ?_
  rintro e w1 ⟨G, rfl, hrow, hG, b1⟩
  go_wp2_with fail
  refine (load_img G headN _ hrow (fun i _ => headN_wf i)).mono ?_
  rintro e w2 ⟨L, rfl, hm, hL, b2⟩
  have HM2 : Hid (MemIs w2 L (fresh (imgL headN))) := hm
  have HL : Hid (∀ k ∈ L.blocks, w.heap.size ≤ k) := fun k hk => by have := hL k hk; have := b1.size; omega
  have B2 : Hid (Below w.heap.size w w2) := b1.trans (b2.mono b1.size)
  have hall := hm.all_lt
  clear hrow hG b1 b2 hm hL HIM
  go_wp2_with fail
  have bl : Below w2.heap.size w2 (w2.alloc (.cells #[.int .i64 1288, .int .u64 7] 40)) := (Below.refl _ _).alloc (Nat.le_refl _) _
  refine Calls.mono (steps_good 0 1 (some ⟨w2.heap.size, 0, none⟩) 1 lv _ (one_at w2 1288 7) lv_ok (by decide) (by decide) (by decide) lv_ctx.right (by decide)) ?_
  rintro e w3 ⟨v, rfl, hos, b3⟩
  rw [lv_nine]
  obtain ⟨S, hS⟩ : ∃ S, stepsP (296 + 248 * 0) 1 lv = S := ⟨_, rfl⟩
  have hSl := lv_all
  have hfit := lv_fit
  have hrec := @lv_recover
  rw [hS] at hos hSl hfit hrec
  have b23 : Below w2.heap.size w2 w3 := bl.trans (b3.mono (by simp))
  have HM3 : Hid (MemIs w3 L (fresh (imgL headN))) := HM2.out.below b23 hall
  have hbase : (w2.alloc (.cells #[.int .i64 1288, .int .u64 7] 40)).heap.size = w2.heap.size + 1 := by simp
  rw [hbase] at hos
  have HB : Hid (∀ k ∈ L.blocks, k < w2.heap.size + 1) := fun k hk => by have := hall k hk; omega
  obtain ⟨va, vc, rfl, hva⟩ := ownsRow_formK hos
  rw [hSl] at hos hva ⊢
  have HO3 : Hid (OwnStps w3 (w2.heap.size + 1) (.slice va 15 vc) S) := hos
  have B3 : Hid (Below w.heap.size w w3) := B2.out.trans (b23.mono B2.out.size)
  have HF : Hid (StpsFit S) := hfit
  have HSL : Hid (S.length = 15) := hSl
  have HREC : Hid (∀ {M9 : Mem}, runP (fresh (imgL headN)) (S.take 9) = (M9, 0) → M9.In → SureM (M9.crash []) (imgF (M9.crash [])) ∧ StB 0 1 lv headN (imgF (M9.crash []))) := hrec
  clear hos hfit hrec hSl bl b3 b23 hbase hall hS
  go_wp2
  rcases hva with h0 | ⟨g, rfl, hg⟩
  · omega
  obtain ⟨m0, hm0⟩ : ∃ m, fresh (imgL headN) = m := ⟨_, rfl⟩
  have hm0l : m0.sure.length = 2824 := by rw [← hm0]; exact imgL_len _
  have hm0s : m0.stops = false := by rw [← hm0]; rfl
  have hm0c : m0.calls = 0 := by rw [← hm0]; rfl
  have HX : Hid (m0.sure.length = 2824 ∧ m0.stops = false ∧ m0.calls = 0) := ⟨hm0l, hm0s, hm0c⟩
  rw [hm0] at HM3 HREC
  clear hm0l hm0s hm0c hm0 HM2
  go_loopw [5] (fun i wr => ∃ (j : Nat) (Mj : Mem), j ≤ 9 ∧ i = .int .i64 j ∧ Hid (MemIs wr L Mj) ∧ Hid (runP m0 (S.take j) = (Mj, 0)) ∧ Hid (OwnStps wr (w2.heap.size + 1) (.slice (some ⟨g, 0, none⟩) 15 vc) S) ∧ Hid (Below w.heap.size w wr)) (fun i _ => 9 - (intOf i).toNat)
  case atStart => exact ⟨0, m0, by omega, rfl, HM3.out, rfl, HO3.out, B3.out⟩
  case round =>
    obtain ⟨j, Mj, hj, rfl, hm, hrun, hos, hb⟩ := hrel
    by_cases hlt : j < 9
    · have hj9 : (j : Int) < 9 := by omega
      have hj15 : (j : Int) < 15 := by omega
      have hjl : j < S.length := by have := HSL.out; omega
      have hos' : OwnStps wr (w2.heap.size + 1) (.slice (some ⟨g, 0, none⟩) S.length vc) S := by rw [HSL.out]; exact hos.out
      obtain ⟨y0, y1, y2⟩ := stp_at hos' j hjl
      obtain ⟨ha, hok1, hst, hcj⟩ := step_next hjl hrun.out HF.out HX.out.1 HX.out.2.1
      rw [HX.out.2.2] at hcj
      have hdo := do_any L Mj (S.getD j ⟨0, 0, 0⟩) wr hm.out (by omega) hok1
      rw [ha] at hdo
      have HST : Hid _ := hst
      obtain ⟨s, hs⟩ : ∃ s, S.getD j ⟨0, 0, 0⟩ = s := ⟨_, rfl⟩
      rw [hs] at y0 y1 y2 hdo HST
      obtain ⟨K, A, V⟩ := s
      obtain ⟨act, hact⟩ : ∃ r, Mj.act ⟨K, A, V⟩ = r := ⟨_, rfl⟩
      rw [hact] at HST hdo
      have HDO : Hid (Calls Try.prog 21 #[.pointer (some ⟨L.mb, 0, none⟩), .agg #[.int .i64 K, .int .i64 A, .int .u64 V]] wr fun e w' => e = .returned (.int .i64 0) ∧ MemIs w' L act ∧ Only L.blocks wr w') := hdo
      clear hdo hok1 hs hact hos' hrun ha hcj hst
      go_wp2_with fail
      refine Calls.mono (Hid.out HDO) ?_
      rintro e w4 ⟨rfl, hm4, ho4⟩
      have HM4 : Hid (MemIs w4 L act) := hm4
      have HS4 : Hid (OwnStps w4 (w2.heap.size + 1) (.slice (some ⟨g, 0, none⟩) 15 vc) S) := hos.out.only ho4 HB.out
      have HB4 : Hid (Below w.heap.size w w4) := hb.out.trans (ho4.below hb.out.size HL.out)
      clear hm4 ho4 hm hos hb HDO
      go_wp2
      go_roundw
      case rel => exact ⟨j + 1, act, by omega, by go_num, HM4.out, HST.out, HS4.out, HB4.out⟩
      case measure => simp [intOf]; omega
    · obtain rfl : j = 9 := by omega
      obtain ⟨c1, c2⟩ := HREC.out hrun.out hm.out.looseIn
      have hcl : Mj.calls ≤ 9 ∧ Mj.stops = false := by
        have h1 := (runP_fits hrun.out).2
        have h2 := runP_stops m0 (S.take 9)
        rw [hrun.out, HX.out.2.1] at h2
        rw [HX.out.2.2, List.length_take] at h1
        exact ⟨by omega, h2⟩
      have HC1 : Hid (SureM (Mj.crash []) (imgF (Mj.crash []))) := c1
      have HC2 : Hid (StB 0 1 lv headN (imgF (Mj.crash []))) := c2
      have hcr := crash_any L Mj (.slice none 0 0) [] wr hm.out (by omega) (keepIs_nil _ _) (by decide)
      have HCR : Hid (Calls Try.prog 23 #[.pointer (some ⟨L.mb, 0, none⟩), .slice none 0 0] wr fun e w' => e = .returned (.tuple #[]) ∧ MemIs w' L (Mj.crash []) ∧ Only L.blocks wr w') := hcr
      have HCC : Hid ((Mj.crash []).calls ≤ 9) := hcl.1
      clear c1 c2 hcl hcr hrun hm hos
      go_wp2_with fail
      refine Calls.mono (Hid.out HCR) ?_
      rintro e w4 ⟨rfl, hm4, ho4⟩
      have hb4 : Below w.heap.size w w4 := hb.out.trans (ho4.below hb.out.size HL.out)
      have hrc := recover_any L (Mj.crash []) w4 hm4 (by have := HCC.out; omega)
      have HRC : Hid (Calls Try.prog 15 #[.pointer (some ⟨L.mb, 0, none⟩)] w4 fun e w' => ∃ k r M', e = .returned (.tuple #[.int .i64 k, .int .i64 r]) ∧ MemIs w' L M' ∧ Only L.blocks w4 w' ∧ RecSpec (Mj.crash []) k r M') := hrc
      clear hm4 ho4 hrc HCR hb
      go_wp2_with fail
      refine Calls.mono (Hid.out HRC) ?_
      rintro e w5 ⟨k, r, M', rfl, hm5, ho5, hsp⟩
      obtain ⟨rfl, rfl, h5, h6, h7⟩ := lv_spec HC1.out rfl HC2.out hsp
      have hb5 : Hid (Below w.heap.size w w5) := hb4.trans (ho5.below hb4.size HL.out)
      have hsz := fun w2 (hw2 : MemIs w2 L M') => size_any L M' w2 hw2
      have hrd := fun k hk => read_any L M' k w5 hm5 hk
      rw [h5] at hsz
      have HS : Hid (Calls Try.prog 28 #[.pointer (some ⟨L.mb, 0, none⟩)] w5 fun e w' => e = .returned (.int .i64 2824) ∧ w' = w5) := hsz w5 hm5
      have HRD : Hid (∀ k, (Lit.int .i64 k).wf = true → Calls Try.prog 27 #[.pointer (some ⟨L.mb, 0, none⟩), .int .i64 k] w5 fun e w' => e = .returned (.int .u64 (M'.read k)) ∧ w' = w5) := hrd
      have H6 : Hid (M'.read 1288 = 7) := h6
      have H7 : Hid (M'.read 296 = 0) := h7
      clear hsz hrd hm5 ho5 hsp h5 h6 h7 hb4 HRC
      go_wp2_with (first
        | (go_at_call 28; refine (Hid.out HS).mono ?_; rintro e w' ⟨rfl, hw⟩; obtain rfl := hw.symm)
        | (go_at_call 27; refine (Hid.out HRD _ (by decide)).mono ?_; rintro e w' ⟨rfl, hw⟩; obtain rfl := hw.symm; first | rw [H6.out] | rw [H7.out])
        | go_in)
      go_ret
      exact ⟨rfl, hb5.out⟩

end Go.Proofs.Ytfalchacdebdpaa
