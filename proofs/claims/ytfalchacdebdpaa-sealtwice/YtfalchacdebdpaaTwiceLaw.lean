/- Proved: for every slice of changes and every number, 'SealTwice' returns true and its arguments read afterwards as before. No condition. -/
import Derived.Test.YtfalchacdebdpaaRows
import Derived.Test.YtfalchacdebdpaaArgs
import Derived.Test.YtfalchacdebdpaaSame
namespace Go.Proofs.Ytfalchacdebdpaa.sealTwice
open Go.ChangeShapes Go.WideShapes Go.ChangeAt Go.RowKit Go.Shelf
set_option linter.unusedVariables false

theorem own : ownKnob Try.prog.godebug = none := by kernel_rfl
theorem laidOut : laidOutB Try.prog = true := by kernel_rfl

/-- A part of the steps of changes, a crash, and recovering twice. -/
theorem twice_math {cs : List Chg} (hr : rightP cs = 0) (hok : ChgOk cs) {m0 M : Mem} (h0 : SureM m0 headN) (hs : m0.stops = false) {n : Nat} (h : runP m0 ((stepsP (logAt 2) 9 cs).take n) = (M, 0)) (hin : M.In) :
    ∀ k r M', RecSpec (M.crash [true, false]) k r M' → M'.In → r = 0 ∧ M'.calls ≤ M.calls + 829 ∧ M'.sure.length = 2824 ∧ ∀ k2 r2 M2, RecSpec M' k2 r2 M2 → k2 = 0 ∧ r2 = 0 ∧ M2 = M' := by
  have c : Ctx 2 9 cs headN := ⟨by decide, by decide, hr, by decide⟩
  have hl : M.sure.length = 2824 := by rw [(runP_fits h).1]; exact h0.1
  obtain ⟨c1, c2⟩ := crash_sure hin hl [true, false]
  have hw : ∀ k : Nat, k < 2824 → M.word k = runW k (.sure (headN k)) ((stepsP (logAt 2) 9 cs).take n) := fun k hk => by
    have := run_words (M := m0) (ss := (stepsP (logAt 2) 9 cs).take n) (by rw [h]) k (by rw [h0.1]; exact hk)
    rw [h, h0.2 k hk] at this; exact this
  have hreal : strip (stepsP (logAt 2) 9 cs) = stepsP (logAt 2) 9 cs := strip_real fun o ho => by
    unfold stepsP sealingP at ho
    rcases List.mem_append.1 ho with ho | ho
    · rcases List.mem_append.1 ho with ho | ho <;> exact sureP_real _ o ho
    · exact List.filter_eq_self.1 (strip_making (logAt 2) cs) o ho |> fun h => by simpa using h
  have hp := steps_part c (strip_take hreal n) (g := imgF (M.crash [true, false])) fun k hk => by
    have := c2 k hk
    rw [hw k hk] at this; exact this
  have hst : StA 2 headN (imgF (M.crash [true, false])) ∨ StB 2 9 cs headN (imgF (M.crash [true, false])) ∨ StC 2 cs headN (imgF (M.crash [true, false])) := by
    rcases Nat.lt_or_ge n (sealingP (logAt 2) 9 cs).length with h1 | h1
    · rcases hp.1 h1 with h2 | h2
      · exact .inl h2
      · exact .inr (.inl h2)
    · rcases hp.2 h1 with h2 | h2
      · exact .inr (.inl h2)
      · exact .inr (.inr h2)
  have hfree : (M.crash [true, false]).stops = false := rfl
  have hcc : (M.crash [true, false]).calls = M.calls := rfl
  intro k r M' hsp hin'
  have fin : ∀ {M' : Mem}, SureM M' (imgF M') → (StA 2 headN (imgF M') ∨ StC 2 cs headN (imgF M')) → ∀ k2 r2 M2, RecSpec M' k2 r2 M2 → k2 = 0 ∧ r2 = 0 ∧ M2 = M' := fun hM hg k2 r2 M2 hsp2 => rec_idle hM c base_head hg hsp2
  rcases hst with hg | hg | hg
  · obtain ⟨_, h2, rfl⟩ := rec_idle c1 c base_head (.inl hg) hsp
    exact ⟨h2, by rw [hcc]; omega, c1.1, fin c1 (.inl hg)⟩
  · obtain ⟨_, h2, h3, h4, _, h6⟩ := rec_free c1 hfree c base_head hok hg hsp
    exact ⟨h2, by rw [hcc] at h6; exact h6, h3.1, fin h3 (.inr h4)⟩
  · obtain ⟨_, h2, rfl⟩ := rec_idle c1 c base_head (.inr hg) hsp
    exact ⟨h2, by rw [hcc]; omega, c1.1, fin c1 (.inr hg)⟩

/-- Steps of changes that may be, none among them. -/
theorem steps_ok (slot : Nat) (num : Int) (a : Option Addr) (cap : Nat) (cs : List Chg) (w : World) (h : ChgsAt w a cs) (hok : ChgOk cs) (h4 : slot < 4) (hn : num ≠ 0) (hr : rightP cs = 0) :
    Calls Try.prog 9 #[.int .i64 slot, .int .u64 num, .slice a cs.length cap] w fun e w' => ∃ v S n, e = .returned (.tuple #[v, .int .i64 n, .int .i64 0]) ∧ OwnStps w' w.heap.size v S ∧ Below w.heap.size w w' ∧
      (cs = [] ∧ S = [] ∧ n = 0 ∨ cs ≠ [] ∧ S = stepsP (logAt slot) num cs ∧ n = ((sealingP (logAt slot) num cs).length : Int)) := by
  have e : (296 + 248 * (slot : Int)) = ((logAt slot : Nat) : Int) := by
    have : logAt slot = 296 + 248 * slot := rfl
    omega
  by_cases hne : cs = []
  · subst hne
    refine (steps_none slot num a cap w (by omega) (by omega) hn).mono ?_
    rintro e w' ⟨rfl, hb⟩
    exact ⟨_, [], 0, rfl, World.ownsRow_nil _ _ _ _, hb, .inl ⟨rfl, rfl, rfl⟩⟩
  · refine (steps_good slot num a cap cs w h hok (by omega) (by omega) hn hr hne).mono ?_
    rintro e' w' ⟨v, rfl, ho, hb⟩
    rw [e] at ho ⊢
    exact ⟨v, _, _, rfl, ho, hb, .inr ⟨hne, rfl, rfl⟩⟩

theorem keep_two {w : World} {S : List Nat} (hS : ∀ k ∈ S, k < w.heap.size) : KeepIs (w.alloc (.cells #[.bool true, .bool false] 4)) S (.slice (some ⟨w.heap.size, 0, none⟩) 2 2) [true, false] := by
  refine ⟨_, _, rfl, .inr ⟨w.heap.size, 0, rfl, fun hm => by have := hS _ hm; omega, fun i hi => ?_⟩⟩
  rw [World.cell?_alloc_at _ _ _ _ rfl]
  match i, hi with
  | 0, _ => rfl
  | 1, _ => rfl

theorem img_at {w' : World} {M : Mem} {base : Nat} (h : w'.ownsRow base 22 1 (.slice (some ⟨base, 0, none⟩) M.sure.length M.sure.length) M.sure.length (M.image.map (Value.int .u64))) : UAt w' (some ⟨base, 0, none⟩) M.sure.length (imgF M) := by
  by_cases h0 : M.sure.length = 0
  · exact .inl h0
  · refine .inr ⟨base, 0, rfl, (World.ownsRow.lt h _ rfl).2, fun i hi => ?_⟩
    rw [Nat.zero_add, World.ownsRow.cellAt h i (by omega), List.getElem?_map, image_at M i hi]; rfl

set_option maxHeartbeats 8000000 in
set_option maxRecDepth 100000 in
theorem walk (a : Option Addr) (cap : Nat) (cs : List Chg) (x : Int) (w : World) (hin : ChgIn w a cap cs) (_hx : -9223372036854775808 ≤ x ∧ x ≤ 9223372036854775807) :
    Calls Try.prog 6 #[.slice a cs.length cap, .int .i64 x] w fun e w' => e = .returned (.bool true) ∧ Below w.heap.size w w' := by
  have HIN : Hid (ChgIn w a cap cs) := hin
  obtain ⟨K, hk1, hk2, hk3⟩ := rem_form x 400 (by decide) (by decide)
  have HLV := lives_any
  have HIM := image13_any
  clear hin _hx
  obtain ⟨cl, hcl⟩ : ∃ n, cs.length = n := ⟨_, rfl⟩
  have HCL : Hid (cs.length = cl) := hcl
  rw [hcl]
  clear hcl
  go_enter Try.func6, Try.ntmps6
  go_wp2_with fail
  refine (HLV _).mono ?_
  rintro e w0 ⟨rfl, b0⟩
  go_wp2_with fail
  refine (HIM _).mono ?_
  rintro e w1 ⟨G, rfl, hrow, hG, b1⟩
  have b01 := b0.trans (b1.mono b0.size)
  go_wp2_with fail
  refine (load_img G headN _ hrow (fun i _ => headN_wf i)).mono ?_
  rintro e w2 ⟨L, rfl, hm, hL, b2⟩
  have HM2 : Hid (MemIs w2 L (fresh (imgL headN))) := hm
  have HL : Hid (∀ k ∈ L.blocks, w.heap.size ≤ k) := fun k hk => by have := hL k hk; have := b01.size; omega
  have b02 := b01.trans (b2.mono b01.size)
  have B2 : Hid (Below w.heap.size w w2) := b02
  have HALL : Hid (∀ k ∈ L.blocks, k < w2.heap.size) := hm.all_lt
  have hat : ChgsAt w2 a cs := HIN.out.at_.later (Nat.le_refl _) b02
  clear hrow hG b0 b1 b01 b02 b2 hm hL HIM HLV
  by_cases hr : rightP cs = 0
  · have hst := steps_ok 2 9 a cap cs w2 hat HIN.out.ok (by decide) (by decide) hr
    rw [HCL.out] at hst
    have HST : Hid (Calls Try.prog 9 #[.int .i64 2, .int .u64 9, .slice a cl cap] w2 fun e w' => ∃ v S n, e = .returned (.tuple #[v, .int .i64 n, .int .i64 0]) ∧ OwnStps w' w2.heap.size v S ∧ Below w2.heap.size w2 w' ∧ (cs = [] ∧ S = [] ∧ n = 0 ∨ cs ≠ [] ∧ S = stepsP (logAt 2) 9 cs ∧ n = ((sealingP (logAt 2) 9 cs).length : Int))) := hst
    have hctx : Ctx 2 9 cs headN := ⟨by decide, by decide, hr, by decide⟩
    have HTM : Hid (∀ {m0 M : Mem}, SureM m0 headN → m0.stops = false → ∀ {n : Nat}, runP m0 ((stepsP (logAt 2) 9 cs).take n) = (M, 0) → M.In →
        ∀ k r M', RecSpec (M.crash [true, false]) k r M' → M'.In → r = 0 ∧ M'.calls ≤ M.calls + 829 ∧ M'.sure.length = 2824 ∧ ∀ k2 r2 M2, RecSpec M' k2 r2 M2 → k2 = 0 ∧ r2 = 0 ∧ M2 = M') := fun h0 hs _ h hin => twice_math hr HIN.out.ok h0 hs h hin
    have HSF : Hid (StpsFit (stepsP (logAt 2) 9 cs)) := steps_fit hctx (by decide) HIN.out.ok
    have HSL : Hid ((stepsP (logAt 2) 9 cs).length ≤ 10000) := by
      show _ ≤ _
      have h1 := making_len (hctx.ok HIN.out.ok)
      have h2 := sureP_len (notesP (logAt 2) cs)
      have h3 := sureP_len [((logAt 2 : Int), (9 : Int))]
      have h4 := notesTo_len (logAt 2) cs cs.length
      have h5 := (rightP_ok hr).1
      have h6 : (notesP (logAt 2 : Int) cs).length = 1 + cs.length * 2 := h4
      have h7 : (makingP (logAt 2 : Int) cs).length ≤ 829 := h1
      unfold stepsP sealingP
      rw [List.length_append, List.length_append]
      simp only [List.length_cons, List.length_nil] at h3
      omega
    clear hst hat hctx hr
    go_wp2_with fail
    refine Calls.mono (Hid.out HST) ?_
    rintro e w3 ⟨v, S, n, rfl, hos, b3, hS⟩
    have HM3 : Hid (MemIs w3 L (fresh (imgL headN))) := HM2.out.below b3 HALL.out
    have B3 : Hid (Below w.heap.size w w3) := B2.out.trans (b3.mono B2.out.size)
    obtain ⟨va, vc, rfl, hva⟩ := ownsRow_formK hos
    have HSS : Hid (∀ j, j ≤ S.length → ∃ i, S.take j = (stepsP (logAt 2) 9 cs).take i) := by
      show ∀ j, j ≤ S.length → ∃ i, S.take j = (stepsP (logAt 2) 9 cs).take i
      intro j hj
      rcases hS with ⟨_, rfl, _⟩ | ⟨_, rfl, _⟩
      · exact ⟨0, by simp⟩
      · exact ⟨j, rfl⟩
    have HFT : Hid (StpsFit S) := by
      show StpsFit S
      rcases hS with ⟨_, rfl, _⟩ | ⟨_, rfl, _⟩
      · intro x hx; cases hx
      · exact HSF.out
    have hsl : S.length ≤ 10000 := by
      rcases hS with ⟨_, rfl, _⟩ | ⟨_, rfl, _⟩
      · simp
      · exact HSL.out
    obtain ⟨sn, hsn⟩ : ∃ n, S.length = n := ⟨_, rfl⟩
    have HSN : Hid (S.length = sn) := hsn
    rw [hsn] at hva hsl ⊢
    have HO3 : Hid (OwnStps w3 w2.heap.size (.slice va sn vc) S) := by have := hos; rw [hsn] at this; exact this
    obtain ⟨m0, hm0⟩ : ∃ m, fresh (imgL headN) = m := ⟨_, rfl⟩
    have HX : Hid (SureM m0 headN ∧ m0.stops = false ∧ m0.calls = 0) := by rw [← hm0]; exact ⟨fresh_sure headN, rfl, rfl⟩
    rw [hm0] at HM3
    clear hos b3 hS hsn hm0 HM2 HST HSL HSF B2
    go_wp2
    go_loopw [9] (fun i wr => ∃ (j : Nat) (Mj : Mem), j ≤ sn ∧ i = .int .i64 j ∧ Hid (MemIs wr L Mj) ∧ Hid (runP m0 (S.take j) = (Mj, 0)) ∧ Hid (OwnStps wr w2.heap.size (.slice va sn vc) S) ∧ Hid (Below w.heap.size w wr)) (fun i _ => sn - (intOf i).toNat)
    case atStart => exact ⟨0, m0, Nat.zero_le _, rfl, HM3.out, rfl, HO3.out, B3.out⟩
    case round =>
      obtain ⟨j, Mj, hj, rfl, hm, hrun, hos, hb⟩ := hrel
      by_cases hlt : j < sn ∧ j < K
      · obtain ⟨hlt, hltK⟩ := hlt
        rcases hva with h0 | ⟨g, rfl, hg⟩
        · omega
        have hjn : (j : Int) < (sn : Int) := by omega
        have hjk : (j : Int) < (K : Int) := by omega
        have hjl : j < S.length := by have := HSN.out; omega
        have hos' : OwnStps wr w2.heap.size (.slice (some ⟨g, 0, none⟩) S.length vc) S := by rw [HSN.out]; exact hos.out
        obtain ⟨y0, y1, y2⟩ := stp_at hos' j hjl
        obtain ⟨ha, hok1, hst, hcj⟩ := step_next hjl hrun.out HFT.out HX.out.1.1 HX.out.2.1
        rw [HX.out.2.2] at hcj
        have hdo := do_any L Mj (S.getD j ⟨0, 0, 0⟩) wr hm.out (by omega) hok1
        rw [ha] at hdo
        have HST : Hid _ := hst
        obtain ⟨s, hs⟩ : ∃ s, S.getD j ⟨0, 0, 0⟩ = s := ⟨_, rfl⟩
        rw [hs] at y0 y1 y2 hdo HST
        obtain ⟨KK, A, V⟩ := s
        obtain ⟨act, hact⟩ : ∃ r, Mj.act ⟨KK, A, V⟩ = r := ⟨_, rfl⟩
        rw [hact] at HST hdo
        have HDO : Hid (Calls Try.prog 21 #[.pointer (some ⟨L.mb, 0, none⟩), .agg #[.int .i64 KK, .int .i64 A, .int .u64 V]] wr fun e w' => e = .returned (.int .i64 0) ∧ MemIs w' L act ∧ Only L.blocks wr w') := hdo
        clear hdo hok1 hs hact hos' hrun ha hcj hst
        go_wp2_with fail
        refine Calls.mono (Hid.out HDO) ?_
        rintro e w4 ⟨rfl, hm4, ho4⟩
        have HM4 : Hid (MemIs w4 L act) := hm4
        have HS4 : Hid (OwnStps w4 w2.heap.size (.slice (some ⟨g, 0, none⟩) sn vc) S) := hos.out.only ho4 HALL.out
        have HB4 : Hid (Below w.heap.size w w4) := hb.out.trans (ho4.below hb.out.size HL.out)
        clear hm4 ho4 hm hos hb HDO
        go_wp2
        go_roundw
        case rel => exact ⟨j + 1, act, by omega, by go_num, HM4.out, HST.out, HS4.out, HB4.out⟩
        case measure => simp [intOf]; omega
      · obtain ⟨i, hi⟩ := HSS.out j (by have := HSN.out; omega)
        have hrun' := hrun.out
        rw [hi] at hrun'
        have hcl2 : Mj.calls ≤ 10000 := by
          have h1 := (runP_fits hrun.out).2
          have := HSN.out
          rw [HX.out.2.2, List.length_take] at h1
          omega
        have HTT : Hid (∀ k r M', RecSpec (Mj.crash [true, false]) k r M' → M'.In → r = 0 ∧ M'.calls ≤ Mj.calls + 829 ∧ M'.sure.length = 2824 ∧ ∀ k2 r2 M2, RecSpec M' k2 r2 M2 → k2 = 0 ∧ r2 = 0 ∧ M2 = M') := HTM.out HX.out.1 HX.out.2.1 hrun' hm.out.looseIn
        have HMJ : Hid (MemIs wr L Mj) := hm.out
        have HBJ : Hid (Below w.heap.size w wr) := hb.out
        by_cases hj1 : j < sn
        · have hj2 : (j : Int) < (sn : Int) := by omega
          have hj3 : ¬ ((j : Int) < (K : Int)) := by omega
          go_wp2_with fail
          have hcr := crash_any L Mj _ [true, false] _ (HMJ.out.alloc (.cells #[.bool true, .bool false] 4)) (by omega) (keep_two HMJ.out.all_lt) (by decide)
          refine Calls.mono hcr ?_
          rintro e w4 ⟨rfl, hm4, ho4⟩
          have hb4 : Below w.heap.size w w4 := (HBJ.out.alloc HBJ.out.size _).trans (ho4.below (by have := HBJ.out.size; simp; omega) HL.out)
          have hrc := recover_any L (Mj.crash [true, false]) w4 hm4 (by show Mj.calls < _; omega)
          have HRC : Hid (Calls Try.prog 15 #[.pointer (some ⟨L.mb, 0, none⟩)] w4 fun e w' => ∃ k r M', e = .returned (.tuple #[.int .i64 k, .int .i64 r]) ∧ MemIs w' L M' ∧ Only L.blocks w4 w' ∧ RecSpec (Mj.crash [true, false]) k r M') := hrc
          clear hcr hm4 ho4 hrc HMJ HBJ
          go_wp2_with fail
          refine Calls.mono (Hid.out HRC) ?_
          rintro e w5 ⟨k, r, M', rfl, hm5, ho5, hsp⟩
          obtain ⟨rfl, h2, h3, h4⟩ := HTT.out k r M' hsp hm5.looseIn
          have HB5 : Hid (Below w.heap.size w w5) := hb4.trans (ho5.below hb4.size HL.out)
          have HM5 : Hid (MemIs w5 L M') := hm5
          have HT4 : Hid (∀ k2 r2 M2, RecSpec M' k2 r2 M2 → k2 = 0 ∧ r2 = 0 ∧ M2 = M') := h4
          have HLEN : Hid (M'.sure.length = 2824) := h3
          have himg := image_any L M' w5 hm5
          have hcal := fun w (h : MemIs w L M') => calls_any L M' w h
          clear hm5 ho5 hsp h4 hb4 HRC HTT
          go_wp2_with fail
          refine himg.mono ?_
          rintro e w6 ⟨rfl, hrow6, b6⟩
          have hu6 := img_at hrow6
          have HM6 : Hid (MemIs w6 L M') := HM5.out.below b6 HM5.out.all_lt
          have HB6 : Hid (Below w.heap.size w w6) := HB5.out.trans (b6.mono HB5.out.size)
          obtain ⟨n6, hn6⟩ : ∃ n, M'.sure.length = n := ⟨_, rfl⟩
          have HN6 : Hid (M'.sure.length = n6) := hn6
          rw [hn6] at hu6 h3 ⊢
          have HNB : Hid (∀ k ∈ L.blocks, k ≠ w5.heap.size) := fun k hk e => by have := HM5.out.all_lt k hk; omega
          have HU6 : Hid (UAt w6 (some ⟨w5.heap.size, 0, none⟩) n6 (imgF M')) := hu6
          obtain ⟨c6, hc6⟩ : ∃ n, M'.calls = n := ⟨_, rfl⟩
          have HC6 : Hid (M'.calls = c6) := hc6
          rw [hc6] at h2
          have HN62 : Hid (n6 ≤ 1000000) := by show n6 ≤ 1000000; omega
          clear hrow6 hu6 b6 himg hn6 hc6 HM5 h3
          go_wp2_with fail
          refine (hcal _ HM6.out).mono ?_
          rintro e w' ⟨rfl, hw⟩
          obtain rfl := hw.symm
          rw [HC6.out]
          have HRC2 : Hid (Calls Try.prog 15 #[.pointer (some ⟨L.mb, 0, none⟩)] w6 fun e w' => ∃ k r M2, e = .returned (.tuple #[.int .i64 k, .int .i64 r]) ∧ MemIs w' L M2 ∧ Only L.blocks w6 w' ∧ RecSpec M' k r M2) := recover_any L M' w6 HM6.out (by rw [HC6.out]; omega)
          go_wp2_with fail
          refine Calls.mono (Hid.out HRC2) ?_
          rintro e w7 ⟨k2, r2, M2, rfl, hm7, ho7, hsp7⟩
          obtain ⟨rfl, rfl, e7⟩ := HT4.out k2 r2 M2 hsp7
          rw [e7] at hm7
          have HM7 : Hid (MemIs w7 L M') := hm7
          have HB7 : Hid (Below w.heap.size w w7) := HB6.out.trans (ho7.below HB6.out.size HL.out)
          have hu7 : UAt w7 (some ⟨w5.heap.size, 0, none⟩) n6 (imgF M') := by
            rcases HU6.out with h | ⟨b, o, e, hb, hc⟩
            · exact .inl h
            · cases e
              have hblk := ho7.block w5.heap.size hb (fun hm => by
                have := HM6.out.all_lt _ hm
                exact HNB.out _ hm rfl)
              exact .inr ⟨_, _, rfl, by have := ho7.size; omega, fun i hi => by rw [World.cell?_of_block (w := w6) hblk]; exact hc i hi⟩
          have HU7 : Hid (UAt w7 (some ⟨w5.heap.size, 0, none⟩) n6 (imgF M')) := hu7
          have hc7 := calls_any L M' w7 hm7
          rw [HC6.out] at hc7
          have HC7 : Hid (Calls Try.prog 17 #[.pointer (some ⟨L.mb, 0, none⟩)] w7 fun e w' => e = .returned (.int .i64 c6) ∧ w' = w7) := hc7
          have HI7 := image_any L M' w7 hm7
          rw [HN6.out] at HI7
          have HI7' : Hid (Calls Try.prog 19 #[.pointer (some ⟨L.mb, 0, none⟩)] w7 fun e w' => e = .returned (.slice (some ⟨w7.heap.size, 0, none⟩) n6 n6) ∧ UAt w' (some ⟨w7.heap.size, 0, none⟩) n6 (imgF M') ∧ Below w7.heap.size w7 w') := HI7.mono fun e w' ⟨h1, h2, h3⟩ => ⟨h1, by have := img_at (M := M') (w' := w') (base := w7.heap.size) (by rw [HN6.out]; exact h2); rw [HN6.out] at this; exact this, h3⟩
          clear hm7 ho7 hsp7 e7 hu7 hc7 HI7 HRC2 hcal
          go_wp2_with (first
            | (go_at_call 17; refine (Hid.out HC7).mono ?_; rintro e w' ⟨rfl, hw⟩; obtain rfl := hw.symm)
            | (go_at_call 19; refine (Hid.out HI7').mono ?_; rintro e w8 ⟨rfl, hu8, b8⟩)
            | (go_at_call 18; refine (same_eq w8 _ _ _ _ n6 (imgF M') (HU7.out.later (Nat.le_refl _) b8) hu8 HN62.out).mono ?_; rintro e w9 ⟨rfl, q, rfl⟩)
            | go_in)
          go_ret
          exact ⟨rfl, below_drewN (HB7.out.trans (b8.mono HB7.out.size)) _⟩

        · have hj2 : ¬ ((j : Int) < (sn : Int)) := by omega
          go_wp2_with fail
          have hcr := crash_any L Mj _ [true, false] _ (HMJ.out.alloc (.cells #[.bool true, .bool false] 4)) (by omega) (keep_two HMJ.out.all_lt) (by decide)
          refine Calls.mono hcr ?_
          rintro e w4 ⟨rfl, hm4, ho4⟩
          have hb4 : Below w.heap.size w w4 := (HBJ.out.alloc HBJ.out.size _).trans (ho4.below (by have := HBJ.out.size; simp; omega) HL.out)
          have hrc := recover_any L (Mj.crash [true, false]) w4 hm4 (by show Mj.calls < _; omega)
          have HRC : Hid (Calls Try.prog 15 #[.pointer (some ⟨L.mb, 0, none⟩)] w4 fun e w' => ∃ k r M', e = .returned (.tuple #[.int .i64 k, .int .i64 r]) ∧ MemIs w' L M' ∧ Only L.blocks w4 w' ∧ RecSpec (Mj.crash [true, false]) k r M') := hrc
          clear hcr hm4 ho4 hrc HMJ HBJ
          go_wp2_with fail
          refine Calls.mono (Hid.out HRC) ?_
          rintro e w5 ⟨k, r, M', rfl, hm5, ho5, hsp⟩
          obtain ⟨rfl, h2, h3, h4⟩ := HTT.out k r M' hsp hm5.looseIn
          have HB5 : Hid (Below w.heap.size w w5) := hb4.trans (ho5.below hb4.size HL.out)
          have HM5 : Hid (MemIs w5 L M') := hm5
          have HT4 : Hid (∀ k2 r2 M2, RecSpec M' k2 r2 M2 → k2 = 0 ∧ r2 = 0 ∧ M2 = M') := h4
          have HLEN : Hid (M'.sure.length = 2824) := h3
          have himg := image_any L M' w5 hm5
          have hcal := fun w (h : MemIs w L M') => calls_any L M' w h
          clear hm5 ho5 hsp h4 hb4 HRC HTT
          go_wp2_with fail
          refine himg.mono ?_
          rintro e w6 ⟨rfl, hrow6, b6⟩
          have hu6 := img_at hrow6
          have HM6 : Hid (MemIs w6 L M') := HM5.out.below b6 HM5.out.all_lt
          have HB6 : Hid (Below w.heap.size w w6) := HB5.out.trans (b6.mono HB5.out.size)
          obtain ⟨n6, hn6⟩ : ∃ n, M'.sure.length = n := ⟨_, rfl⟩
          have HN6 : Hid (M'.sure.length = n6) := hn6
          rw [hn6] at hu6 h3 ⊢
          have HNB : Hid (∀ k ∈ L.blocks, k ≠ w5.heap.size) := fun k hk e => by have := HM5.out.all_lt k hk; omega
          have HU6 : Hid (UAt w6 (some ⟨w5.heap.size, 0, none⟩) n6 (imgF M')) := hu6
          obtain ⟨c6, hc6⟩ : ∃ n, M'.calls = n := ⟨_, rfl⟩
          have HC6 : Hid (M'.calls = c6) := hc6
          rw [hc6] at h2
          have HN62 : Hid (n6 ≤ 1000000) := by show n6 ≤ 1000000; omega
          clear hrow6 hu6 b6 himg hn6 hc6 HM5 h3
          go_wp2_with fail
          refine (hcal _ HM6.out).mono ?_
          rintro e w' ⟨rfl, hw⟩
          obtain rfl := hw.symm
          rw [HC6.out]
          have HRC2 : Hid (Calls Try.prog 15 #[.pointer (some ⟨L.mb, 0, none⟩)] w6 fun e w' => ∃ k r M2, e = .returned (.tuple #[.int .i64 k, .int .i64 r]) ∧ MemIs w' L M2 ∧ Only L.blocks w6 w' ∧ RecSpec M' k r M2) := recover_any L M' w6 HM6.out (by rw [HC6.out]; omega)
          go_wp2_with fail
          refine Calls.mono (Hid.out HRC2) ?_
          rintro e w7 ⟨k2, r2, M2, rfl, hm7, ho7, hsp7⟩
          obtain ⟨rfl, rfl, e7⟩ := HT4.out k2 r2 M2 hsp7
          rw [e7] at hm7
          have HM7 : Hid (MemIs w7 L M') := hm7
          have HB7 : Hid (Below w.heap.size w w7) := HB6.out.trans (ho7.below HB6.out.size HL.out)
          have hu7 : UAt w7 (some ⟨w5.heap.size, 0, none⟩) n6 (imgF M') := by
            rcases HU6.out with h | ⟨b, o, e, hb, hc⟩
            · exact .inl h
            · cases e
              have hblk := ho7.block w5.heap.size hb (fun hm => by
                have := HM6.out.all_lt _ hm
                exact HNB.out _ hm rfl)
              exact .inr ⟨_, _, rfl, by have := ho7.size; omega, fun i hi => by rw [World.cell?_of_block (w := w6) hblk]; exact hc i hi⟩
          have HU7 : Hid (UAt w7 (some ⟨w5.heap.size, 0, none⟩) n6 (imgF M')) := hu7
          have hc7 := calls_any L M' w7 hm7
          rw [HC6.out] at hc7
          have HC7 : Hid (Calls Try.prog 17 #[.pointer (some ⟨L.mb, 0, none⟩)] w7 fun e w' => e = .returned (.int .i64 c6) ∧ w' = w7) := hc7
          have HI7 := image_any L M' w7 hm7
          rw [HN6.out] at HI7
          have HI7' : Hid (Calls Try.prog 19 #[.pointer (some ⟨L.mb, 0, none⟩)] w7 fun e w' => e = .returned (.slice (some ⟨w7.heap.size, 0, none⟩) n6 n6) ∧ UAt w' (some ⟨w7.heap.size, 0, none⟩) n6 (imgF M') ∧ Below w7.heap.size w7 w') := HI7.mono fun e w' ⟨h1, h2, h3⟩ => ⟨h1, by have := img_at (M := M') (w' := w') (base := w7.heap.size) (by rw [HN6.out]; exact h2); rw [HN6.out] at this; exact this, h3⟩
          clear hm7 ho7 hsp7 e7 hu7 hc7 HI7 HRC2 hcal
          go_wp2_with (first
            | (go_at_call 17; refine (Hid.out HC7).mono ?_; rintro e w' ⟨rfl, hw⟩; obtain rfl := hw.symm)
            | (go_at_call 19; refine (Hid.out HI7').mono ?_; rintro e w8 ⟨rfl, hu8, b8⟩)
            | (go_at_call 18; refine (same_eq w8 _ _ _ _ n6 (imgF M') (HU7.out.later (Nat.le_refl _) b8) hu8 HN62.out).mono ?_; rintro e w9 ⟨rfl, q, rfl⟩)
            | go_in)
          go_ret
          exact ⟨rfl, below_drewN (HB7.out.trans (b8.mono HB7.out.size)) _⟩

  · have hst := steps_wrong 2 9 a cap cs w2 hat HIN.out.ok (by decide) (by decide) (by decide) hr
    rw [HCL.out] at hst
    obtain ⟨rp, hrp⟩ : ∃ r, rightP cs = r := ⟨_, rfl⟩
    rw [hrp] at hst hr
    have HST : Hid (Calls Try.prog 9 #[.int .i64 2, .int .u64 9, .slice a cl cap] w2 fun e w' => e = .returned (.tuple #[.slice none 0 0, .int .i64 0, .int .i64 rp]) ∧ Below w2.heap.size w2 w') := hst
    have hb : (rp != 0) = true := by simpa using hr
    clear hst hat hrp hr
    go_wp2_with fail
    refine Calls.mono (Hid.out HST) ?_
    rintro e w3 ⟨rfl, b3⟩
    go_wp2
    go_ret
    exact ⟨rfl, B2.out.trans (b3.mono B2.out.size)⟩

set_option maxRecDepth 100000 in
theorem lifted (os : Os) (started : os.Started) (H : Type) (enc : TypeId × Value → H) :
    ReturnsInHanded {} Try.checked os 6 .any (Rows.sealTwiceSpec.pre6 enc Try.prog Try.f6 Rows.sealTwiceRow.domain false) (Rows.sealTwiceSpec.post enc Try.prog Try.f6 false true false false) := by
  refine returnsInHanded_of_change (C := Try.checked) own started (by kernel_rfl) Try.func6
    (ChangeSpec.witness6 (enc := enc) (C := Try.checked) false ⟨#[], #[.slice none 0 0, .int .i64 0], []⟩ 8 (by kernel_rfl) (by kernel_rfl) (by kernel_rfl) (by kernel_rfl)) ?_
  intro W base args ds gs before hval0 hW hcnd _
  have hval : ∀ (j : Nat) t v, Try.f6.params[j]? = some t → args[j]? = some v → Value.okWide Try.prog W .any base t v := hval0
  have hW' := hW
  obtain ⟨p, q, hA0, hV, rfl, hfz, hnd⟩ := hW
  have hA : DataW.TrodAll enc Try.prog W 0 (fun _ => true) true Try.f6.params.toList args.toList ds p := hA0
  rw [Try.params6] at hA hval
  obtain ⟨v0, vs0, d0, ds0, p0, q0, hargs, rfl, rfl, h0, r0⟩ := trodAll_cons hA
  obtain ⟨v1, vs1, d1, ds1, p1, q1, rfl, rfl, rfl, h1, r1⟩ := trodAll_cons r0
  obtain ⟨rfl, rfl, rfl⟩ := trodAll_nil r1
  obtain rfl : args = #[v0, v1] := by cases args; simp_all
  obtain ⟨rfl, rfl⟩ := trodVars_none hV
  have k0 := h0
  have lt0 : ∀ x ∈ p0, x.block < W.heap.size := by obtain ⟨m, hm⟩ := k0; exact DataW.trod_lt m _ _ _ hm
  obtain ⟨a0, len0, cap0, rfl⟩ := okWide_slice Try.underlying23 (hval 0 23 v0 rfl rfl)
  obtain ⟨cs0, hl0, w0⟩ := open_chgs rfl h0
  subst hl0
  obtain ⟨a1, rfl, rfl, rfl, w1⟩ := open_int Try.underlying3 (hval 1 3 v1 rfl rfl) h1
  clear hA0 hval0
  refine (walk a0 cap0 cs0 a1 W w0 (bounds_i64 w1)).mono fun e W' ⟨he, bel⟩ => ?_
  subst he
  exact ⟨_, rfl, _, _, _, [], _, [], hW', trodAll_mk1 (shut_bool Try.underlying4 _), (trodAll_cons_mk (Below.trod laidOut (by kernel_rfl) (of_decide_eq_true (by kernel_rfl)) k0 bel lt0) (trodAll_cons_mk (shut_int Try.underlying3 w1) trodAll_mk0)), rfl, bel.frame _, fun h => by cases h⟩

theorem over : Rows.sealTwiceRow.holds Try.pinned (OpenSpec.ofChange Rows.sealTwiceSpec) :=
  OpenClaim.holds_of_wide 6 Try.f6 rfl rfl rfl rfl rfl rfl rfl ⟨rfl, rfl, rfl, rfl, rfl⟩ rfl rfl rfl rfl rfl (by kernel_rfl) Try.func6 (by kernel_rfl)
    (of_decide_eq_true (by kernel_rfl)) (by unfold Func.isWrapper; first | (rw [if_pos (by decide +kernel)]; kernel_rfl) | (rw [if_neg (by decide +kernel)]; exact ⟨rfl, rfl⟩))
    (fun os started H enc _ => lifted os started H enc)

theorem proved : Rows.SealTwiceSaid := over
#print axioms proved
end Go.Proofs.Ytfalchacdebdpaa.sealTwice
