/- Proved: for every slot, number and slice of changes, 'SealSteps' returns true and its arguments read afterwards as before. No condition. -/
import Derived.Test.YtfalchacdebdpaaRows
import Derived.Test.YtfalchacdebdpaaArgs
import Derived.Test.YtfalchacdebdpaaRefD
namespace Go.Proofs.Ytfalchacdebdpaa.sealSteps
open Go.ChangeShapes Go.WideShapes Go.ChangeAt Go.RowKit Go.Shelf
set_option linter.unusedVariables false

theorem own : ownKnob Try.prog.godebug = none := by kernel_rfl
theorem laidOut : laidOutB Try.prog = true := by kernel_rfl

/-- Both answer the same steps, the same count, the same error. -/
theorem both (slot num : Int) (a : Option Addr) (cap : Nat) (cs : List Chg) (hok : ChgOk cs) :
    ∃ (S : List Stp) (n r : Int), S.length ≤ 1000000 ∧ (∀ w, ChgsAt w a cs → Calls Try.prog 9 #[.int .i64 slot, .int .u64 num, .slice a cs.length cap] w fun e w' => ∃ v, e = .returned (.tuple #[v, .int .i64 n, .int .i64 r]) ∧ OwnStps w' w.heap.size v S ∧ Below w.heap.size w w') ∧
      (∀ w, ChgsAt w a cs → Calls Try.prog 10 #[.int .i64 slot, .int .u64 num, .slice a cs.length cap] w fun e w' => ∃ v, e = .returned (.tuple #[v, .int .i64 n, .int .i64 r]) ∧ OwnRef w' w.heap.size v S ∧ Below w.heap.size w w') := by
  by_cases hb : slot < 0 ∨ 4 ≤ slot ∨ num = 0
  · refine ⟨[], 0, 1, by simp, fun w h => (steps_bad slot num a cs.length cap w hb).mono ?_, fun w h => (refSteps_bad slot num a cs.length cap w hb).mono ?_⟩
    · rintro e w' ⟨rfl, rfl⟩; exact ⟨_, rfl, World.ownsRow_nil _ _ _ _, Below.refl _ _⟩
    · rintro e w' ⟨rfl, rfl⟩; exact ⟨_, rfl, World.ownsRow_nil _ _ _ _, Below.refl _ _⟩
  · have h0 : 0 ≤ slot := by omega
    have h4 : slot < 4 := by omega
    have hn : num ≠ 0 := by omega
    by_cases hr : rightP cs = 0
    · by_cases hne : cs = []
      · subst hne
        refine ⟨[], 0, 0, by simp, fun w h => (steps_none slot num a cap w h0 h4 hn).mono ?_, fun w h => (refSteps_none slot num a cap w h0 h4 hn).mono ?_⟩
        · rintro e w' ⟨rfl, hb⟩; exact ⟨_, rfl, World.ownsRow_nil _ _ _ _, hb⟩
        · rintro e w' ⟨rfl, hb⟩; exact ⟨_, rfl, World.ownsRow_nil _ _ _ _, hb _⟩
      · refine ⟨stepsP (296 + 248 * slot) num cs, ((sealingP (296 + 248 * slot) num cs).length : Int), 0, ?_, fun w h => (steps_good slot num a cap cs w h hok h0 h4 hn hr hne).mono ?_, fun w h => (refSteps_good slot num a cap cs w h h0 h4 hn hr hne).mono ?_⟩
        · have h2 := sureP_len (notesP (296 + 248 * slot) cs)
          have h3 := sureP_len [(296 + 248 * slot, num)]
          have h4 := notesTo_len (296 + 248 * slot) cs cs.length
          have h5 := (rightP_ok hr).1
          have h6 : (notesP (296 + 248 * slot) cs).length = 1 + cs.length * 2 := h4
          have h7 := sureP_len cs
          have h8 := sureP_len [(296 + 248 * slot, 0)]
          simp only [List.length_cons, List.length_nil] at h3 h8
          unfold stepsP sealingP makingP
          rw [List.length_append, List.length_append, List.length_append]
          omega
        · rintro e w' ⟨v, rfl, ho, hb⟩; exact ⟨v, rfl, ho, hb⟩
        · rintro e w' ⟨v, rfl, ho, hb⟩; exact ⟨v, rfl, ho, hb⟩
    · refine ⟨[], 0, rightP cs, by simp, fun w h => (steps_wrong slot num a cap cs w h hok h0 h4 hn hr).mono ?_, fun w h => (refSteps_wrong slot num a cap cs w h h0 h4 hn hr).mono ?_⟩
      · rintro e w' ⟨rfl, hb⟩; exact ⟨_, rfl, World.ownsRow_nil _ _ _ _, hb⟩
      · rintro e w' ⟨rfl, hb⟩; exact ⟨_, rfl, World.ownsRow_nil _ _ _ _, hb _⟩

theorem ref_at {w : World} {base g cap : Nat} {ss : List Stp} (h : OwnRef w base (.slice (some ⟨g, 0, none⟩) ss.length cap) ss) (k : Nat) (hk : k < ss.length) :
    w.cell? ⟨g, k * 3, none⟩ = some (.int .i64 (ss.getD k ⟨0, 0, 0⟩).kind) ∧ w.cell? ⟨g, k * 3 + 1, none⟩ = some (.int .i64 (ss.getD k ⟨0, 0, 0⟩).at_) ∧ w.cell? ⟨g, k * 3 + 2, none⟩ = some (.int .u64 (ss.getD k ⟨0, 0, 0⟩).v) := by
  have := stpVals_at ss k hk
  rw [World.ownsRow.cellAt h _ (by omega), World.ownsRow.cellAt h _ (by omega), World.ownsRow.cellAt h _ (by omega)]
  exact this

set_option maxHeartbeats 8000000 in
set_option maxRecDepth 100000 in
theorem walk (slot num : Int) (a : Option Addr) (cap : Nat) (cs0 : List Chg) (w : World) (_hs : -9223372036854775808 ≤ slot ∧ slot ≤ 9223372036854775807) (_hn : 0 ≤ num ∧ num ≤ 18446744073709551615) (hin : ChgIn w a cap cs0) :
    Calls Try.prog 3 #[.int .i64 slot, .int .u64 num, .slice a cs0.length cap] w fun e w' => e = .returned (.bool true) ∧ Below w.heap.size w w' := by
  have HIN : Hid (ChgIn w a cap cs0) := hin
  have HLV := lives_any
  obtain ⟨k, hk⟩ : ∃ k : Nat, min (cs0.length : Int) 200 = (k : Int) := ⟨(min (cs0.length : Int) 200).toNat, by omega⟩
  have hkl : (cs0.take 200).length = k := by rw [List.length_take]; omega
  have hkc : k ≤ cap := by have := hin.le; omega
  obtain ⟨cs, hcs⟩ : ∃ l, cs0.take 200 = l := ⟨_, rfl⟩
  have hc0 : ChgsAt w a cs := by rw [← hcs]; exact hin.at_.take 200
  have hok : ChgOk cs := by rw [← hcs]; exact hin.ok.take 200
  rw [hcs] at hkl
  obtain ⟨c0, hcl0⟩ : ∃ n, cs0.length = n := ⟨_, rfl⟩
  rw [hcl0] at hk ⊢
  have hnone := hin.none
  have hcm := hin.le
  rw [hcl0] at hcm
  have HOK0 : Hid (ChgOk cs) := hok
  have HC0 : Hid (ChgsAt w a cs) := hc0
  have HKL : Hid (cs.length = k) := hkl
  have HNO : Hid (a = none → cap = 0) := hnone
  clear hin HIN _hs _hn hcs hcl0 hc0 hok hkl hnone
  cases a with
  | none =>
    obtain rfl : cap = 0 := HNO.out rfl
    obtain rfl : c0 = 0 := by omega
    obtain rfl : k = 0 := by omega
    go_enter Try.func3, Try.ntmps3
    go_wp2_with fail
    refine (HLV _).mono ?_
    rintro e w1 ⟨rfl, b1⟩
    have HBB : Hid (Below w.heap.size w w1) := b1
    have hc1 : ChgsAt w1 none cs := HC0.out.later (Nat.le_refl _) b1
    clear b1 HLV
    have hok := HOK0.out
    have HC : Hid (ChgsAt w1 (none) cs) := hc1
    obtain ⟨S, n, r, hsl, hA, hB⟩ := both slot num (none) 0 cs hok
    have hcl := HKL.out
    have hri := fun w h => right7_any (none) 0 cs w h hok
    have hrf := fun w h => refRight7_any (none) 0 cs w h
    obtain ⟨rp, hrp⟩ : ∃ r, rightP cs = r := ⟨_, rfl⟩
    rw [hcl] at hA hB hri hrf
    rw [hrp] at hri hrf
    have HA : Hid (∀ w, ChgsAt w (none) cs → Calls Try.prog 9 #[.int .i64 slot, .int .u64 num, .slice (none) 0 0] w fun e w' => ∃ v, e = .returned (.tuple #[v, .int .i64 n, .int .i64 r]) ∧ OwnStps w' w.heap.size v S ∧ Below w.heap.size w w') := hA
    have HB : Hid (∀ w, ChgsAt w (none) cs → Calls Try.prog 10 #[.int .i64 slot, .int .u64 num, .slice (none) 0 0] w fun e w' => ∃ v, e = .returned (.tuple #[v, .int .i64 n, .int .i64 r]) ∧ OwnRef w' w.heap.size v S ∧ Below w.heap.size w w') := hB
    have HRI : Hid (∀ w, ChgsAt w (none) cs → Calls Try.prog 11 #[.slice (none) 0 0] w fun e w' => e = .returned (.int .i64 rp) ∧ Below w.heap.size w w') := hri
    have HRF : Hid (∀ w, ChgsAt w (none) cs → Calls Try.prog 12 #[.slice (none) 0 0] w fun e w' => e = .returned (.int .i64 rp) ∧ ∀ B, Below B w w') := hrf
    have q1 : (rp != rp) = false := by simp
    have q2 : (n != n) = false := by simp
    have q3 : (r != r) = false := by simp
    obtain ⟨sn, hsn⟩ : ∃ n, S.length = n := ⟨_, rfl⟩
    have HSN : Hid (S.length = sn) := hsn
    have q4 : ((sn : Int) != (sn : Int)) = false := by simp
    rw [hsn] at hsl
    clear hA hB hri hrf hok hcl hrp hsn hc1
    go_wp2_with fail
    refine Calls.mono (Hid.out HA _ HC.out) ?_
    rintro e w2 ⟨v, rfl, hos, b2⟩
    have HC2 : Hid (ChgsAt w2 (none) cs) := HC.out.later (Nat.le_refl _) b2
    have B2 : Hid (Below w.heap.size w w2) := HBB.out.trans (b2.mono HBB.out.size)
    obtain ⟨va, vc, rfl, hva⟩ := ownsRow_formK hos
    have HS2 : Hid (OwnStps w2 w1.heap.size (.slice va sn vc) S) := by have := hos; rw [HSN.out] at this; exact this
    rw [HSN.out]
    clear hos b2
    go_wp2_with fail
    refine Calls.mono (Hid.out HB _ HC2.out) ?_
    rintro e w3 ⟨v, rfl, hos, b3⟩
    have HC3 : Hid (ChgsAt w3 (none) cs) := HC2.out.later (Nat.le_refl _) b3
    have B3 : Hid (Below w.heap.size w w3) := B2.out.trans (b3.mono B2.out.size)
    obtain ⟨ra, rc, rfl, hra⟩ := ownsRow_formK hos
    have HR3 : Hid (OwnRef w3 w2.heap.size (.slice ra sn rc) S) := by have := hos; rw [HSN.out] at this; exact this
    have HS3 : Hid (OwnStps w3 w1.heap.size (.slice va sn vc) S) := HS2.out.later (Nat.le_refl _) b3
    rw [HSN.out]
    rw [HSN.out] at hva hra
    clear hos b3 HS2
    go_wp2_with (first
      | (go_at_call 11; refine Calls.mono (Hid.out HRI _ HC3.out) ?_; rintro e w4 ⟨rfl, b4⟩; have HC4 := HC3.out.later (Nat.le_refl _) b4)
      | (go_at_call 12; refine Calls.mono (Hid.out HRF _ HC4) ?_; rintro e w5 ⟨rfl, b5⟩)
      | fail)
    have b35 : Below w3.heap.size w3 w5 := b4.trans (b5 _)
    have HB5 : Hid (Below w.heap.size w w5) := B3.out.trans (b35.mono B3.out.size)
    have HR5 : Hid (OwnRef w5 w2.heap.size (.slice ra sn rc) S) := HR3.out.later (Nat.le_refl _) b35
    have HS5 : Hid (OwnStps w5 w1.heap.size (.slice va sn vc) S) := HS3.out.later (Nat.le_refl _) b35
    clear b4 b5 b35 HC4 HR3 HS3
    go_loopw [13] (fun i wr => ∃ k m : Nat, k ≤ sn ∧ i = .int .i64 k ∧ wr = w5.drewN m) (fun i _ => sn - (intOf i).toNat)
    case atStart => exact ⟨0, 0, Nat.zero_le _, rfl, rfl⟩
    case round =>
      obtain ⟨k, m, hk, rfl, rfl⟩ := hrel
      by_cases hlt : k < sn
      · rcases hva with h0 | ⟨g, rfl, hg⟩
        · omega
        rcases hra with h0 | ⟨g2, rfl, hg2⟩
        · omega
        have hkn : (k : Int) < (sn : Int) := by omega
        have hos' : OwnStps w5 w1.heap.size (.slice (some ⟨g, 0, none⟩) S.length vc) S := by rw [HSN.out]; exact HS5.out
        have hor' : OwnRef w5 w2.heap.size (.slice (some ⟨g2, 0, none⟩) S.length rc) S := by rw [HSN.out]; exact HR5.out
        obtain ⟨y0, y1, y2⟩ := stp_at hos' k (by rw [HSN.out]; exact hlt)
        obtain ⟨z0, z1, z2⟩ := ref_at hor' k (by rw [HSN.out]; exact hlt)
        obtain ⟨s, hs⟩ : ∃ s, S.getD k ⟨0, 0, 0⟩ = s := ⟨_, rfl⟩
        rw [hs] at y0 y1 y2 z0 z1 z2
        obtain ⟨KK, A, V⟩ := s
        dsimp only at y0 y1 y2 z0 z1 z2
        have f1 : (KK != KK) = false := by simp
        have f2 : (A != A) = false := by simp
        have f3 : (V != V) = false := by simp
        clear hs hos' hor' q1 q2 q3 q4
        go_wp2
        go_quiet (fail)
        go_wp2
        go_roundw
        case rel => exact ⟨k + 1, _, by omega, by go_num, by first | rfl | exact World.drewN_drewN ..⟩
        case measure => simp [intOf]; omega
      · obtain rfl : k = sn := by omega
        go_wp2
        go_ret
        exact ⟨rfl, below_drewN HB5.out _⟩
  | some x =>
    go_enter Try.func3, Try.ntmps3
    go_wp2_with fail
    refine (HLV _).mono ?_
    rintro e w1 ⟨rfl, b1⟩
    have HBB : Hid (Below w.heap.size w w1) := b1
    have hc1 : ChgsAt w1 (some x) cs := HC0.out.later (Nat.le_refl _) b1
    clear b1 HLV
    have hok := HOK0.out
    have HC : Hid (ChgsAt w1 (some x) cs) := hc1
    obtain ⟨S, n, r, hsl, hA, hB⟩ := both slot num (some x) cap cs hok
    have hcl := HKL.out
    have hri := fun w h => right7_any (some x) cap cs w h hok
    have hrf := fun w h => refRight7_any (some x) cap cs w h
    obtain ⟨rp, hrp⟩ : ∃ r, rightP cs = r := ⟨_, rfl⟩
    rw [hcl] at hA hB hri hrf
    rw [hrp] at hri hrf
    have HA : Hid (∀ w, ChgsAt w (some x) cs → Calls Try.prog 9 #[.int .i64 slot, .int .u64 num, .slice (some x) k cap] w fun e w' => ∃ v, e = .returned (.tuple #[v, .int .i64 n, .int .i64 r]) ∧ OwnStps w' w.heap.size v S ∧ Below w.heap.size w w') := hA
    have HB : Hid (∀ w, ChgsAt w (some x) cs → Calls Try.prog 10 #[.int .i64 slot, .int .u64 num, .slice (some x) k cap] w fun e w' => ∃ v, e = .returned (.tuple #[v, .int .i64 n, .int .i64 r]) ∧ OwnRef w' w.heap.size v S ∧ Below w.heap.size w w') := hB
    have HRI : Hid (∀ w, ChgsAt w (some x) cs → Calls Try.prog 11 #[.slice (some x) k cap] w fun e w' => e = .returned (.int .i64 rp) ∧ Below w.heap.size w w') := hri
    have HRF : Hid (∀ w, ChgsAt w (some x) cs → Calls Try.prog 12 #[.slice (some x) k cap] w fun e w' => e = .returned (.int .i64 rp) ∧ ∀ B, Below B w w') := hrf
    have q1 : (rp != rp) = false := by simp
    have q2 : (n != n) = false := by simp
    have q3 : (r != r) = false := by simp
    obtain ⟨sn, hsn⟩ : ∃ n, S.length = n := ⟨_, rfl⟩
    have HSN : Hid (S.length = sn) := hsn
    have q4 : ((sn : Int) != (sn : Int)) = false := by simp
    rw [hsn] at hsl
    clear hA hB hri hrf hok hcl hrp hsn hc1
    go_wp2_with fail
    refine Calls.mono (Hid.out HA _ HC.out) ?_
    rintro e w2 ⟨v, rfl, hos, b2⟩
    have HC2 : Hid (ChgsAt w2 (some x) cs) := HC.out.later (Nat.le_refl _) b2
    have B2 : Hid (Below w.heap.size w w2) := HBB.out.trans (b2.mono HBB.out.size)
    obtain ⟨va, vc, rfl, hva⟩ := ownsRow_formK hos
    have HS2 : Hid (OwnStps w2 w1.heap.size (.slice va sn vc) S) := by have := hos; rw [HSN.out] at this; exact this
    rw [HSN.out]
    clear hos b2
    go_wp2_with fail
    refine Calls.mono (Hid.out HB _ HC2.out) ?_
    rintro e w3 ⟨v, rfl, hos, b3⟩
    have HC3 : Hid (ChgsAt w3 (some x) cs) := HC2.out.later (Nat.le_refl _) b3
    have B3 : Hid (Below w.heap.size w w3) := B2.out.trans (b3.mono B2.out.size)
    obtain ⟨ra, rc, rfl, hra⟩ := ownsRow_formK hos
    have HR3 : Hid (OwnRef w3 w2.heap.size (.slice ra sn rc) S) := by have := hos; rw [HSN.out] at this; exact this
    have HS3 : Hid (OwnStps w3 w1.heap.size (.slice va sn vc) S) := HS2.out.later (Nat.le_refl _) b3
    rw [HSN.out]
    rw [HSN.out] at hva hra
    clear hos b3 HS2
    go_wp2_with (first
      | (go_at_call 11; refine Calls.mono (Hid.out HRI _ HC3.out) ?_; rintro e w4 ⟨rfl, b4⟩; have HC4 := HC3.out.later (Nat.le_refl _) b4)
      | (go_at_call 12; refine Calls.mono (Hid.out HRF _ HC4) ?_; rintro e w5 ⟨rfl, b5⟩)
      | fail)
    have b35 : Below w3.heap.size w3 w5 := b4.trans (b5 _)
    have HB5 : Hid (Below w.heap.size w w5) := B3.out.trans (b35.mono B3.out.size)
    have HR5 : Hid (OwnRef w5 w2.heap.size (.slice ra sn rc) S) := HR3.out.later (Nat.le_refl _) b35
    have HS5 : Hid (OwnStps w5 w1.heap.size (.slice va sn vc) S) := HS3.out.later (Nat.le_refl _) b35
    clear b4 b5 b35 HC4 HR3 HS3
    go_loopw [13] (fun i wr => ∃ k m : Nat, k ≤ sn ∧ i = .int .i64 k ∧ wr = w5.drewN m) (fun i _ => sn - (intOf i).toNat)
    case atStart => exact ⟨0, 0, Nat.zero_le _, rfl, rfl⟩
    case round =>
      obtain ⟨k, m, hk, rfl, rfl⟩ := hrel
      by_cases hlt : k < sn
      · rcases hva with h0 | ⟨g, rfl, hg⟩
        · omega
        rcases hra with h0 | ⟨g2, rfl, hg2⟩
        · omega
        have hkn : (k : Int) < (sn : Int) := by omega
        have hos' : OwnStps w5 w1.heap.size (.slice (some ⟨g, 0, none⟩) S.length vc) S := by rw [HSN.out]; exact HS5.out
        have hor' : OwnRef w5 w2.heap.size (.slice (some ⟨g2, 0, none⟩) S.length rc) S := by rw [HSN.out]; exact HR5.out
        obtain ⟨y0, y1, y2⟩ := stp_at hos' k (by rw [HSN.out]; exact hlt)
        obtain ⟨z0, z1, z2⟩ := ref_at hor' k (by rw [HSN.out]; exact hlt)
        obtain ⟨s, hs⟩ : ∃ s, S.getD k ⟨0, 0, 0⟩ = s := ⟨_, rfl⟩
        rw [hs] at y0 y1 y2 z0 z1 z2
        obtain ⟨KK, A, V⟩ := s
        dsimp only at y0 y1 y2 z0 z1 z2
        have f1 : (KK != KK) = false := by simp
        have f2 : (A != A) = false := by simp
        have f3 : (V != V) = false := by simp
        clear hs hos' hor' q1 q2 q3 q4
        go_wp2
        go_quiet (fail)
        go_wp2
        go_roundw
        case rel => exact ⟨k + 1, _, by omega, by go_num, by first | rfl | exact World.drewN_drewN ..⟩
        case measure => simp [intOf]; omega
      · obtain rfl : k = sn := by omega
        go_wp2
        go_ret
        exact ⟨rfl, below_drewN HB5.out _⟩

set_option maxRecDepth 100000 in
theorem lifted (os : Os) (started : os.Started) (H : Type) (enc : TypeId × Value → H) :
    ReturnsInHanded {} Try.checked os 3 .any (Rows.sealStepsSpec.pre6 enc Try.prog Try.f3 Rows.sealStepsRow.domain false) (Rows.sealStepsSpec.post enc Try.prog Try.f3 false true false false) := by
  refine returnsInHanded_of_change (C := Try.checked) own started (by kernel_rfl) Try.func3
    (ChangeSpec.witness6 (enc := enc) (C := Try.checked) false ⟨#[], #[.int .i64 0, .int .u64 0, .slice none 0 0], []⟩ 8 (by kernel_rfl) (by kernel_rfl) (by kernel_rfl) (by kernel_rfl)) ?_
  intro W base args ds gs before hval0 hW hcnd _
  have hval : ∀ (j : Nat) t v, Try.f3.params[j]? = some t → args[j]? = some v → Value.okWide Try.prog W .any base t v := hval0
  have hW' := hW
  obtain ⟨p, q, hA0, hV, rfl, hfz, hnd⟩ := hW
  have hA : DataW.TrodAll enc Try.prog W 0 (fun _ => true) true Try.f3.params.toList args.toList ds p := hA0
  rw [Try.params3] at hA hval
  obtain ⟨v0, vs0, d0, ds0, p0, q0, hargs, rfl, rfl, h0, r0⟩ := trodAll_cons hA
  obtain ⟨v1, vs1, d1, ds1, p1, q1, rfl, rfl, rfl, h1, r1⟩ := trodAll_cons r0
  obtain ⟨v2, vs2, d2, ds2, p2, q2, rfl, rfl, rfl, h2, r2⟩ := trodAll_cons r1
  obtain ⟨rfl, rfl, rfl⟩ := trodAll_nil r2
  obtain rfl : args = #[v0, v1, v2] := by cases args; simp_all
  obtain ⟨rfl, rfl⟩ := trodVars_none hV
  obtain ⟨a0, rfl, rfl, rfl, w0⟩ := open_int Try.underlying3 (hval 0 3 v0 rfl rfl) h0
  obtain ⟨a1, rfl, rfl, rfl, w1⟩ := open_int Try.underlying22 (hval 1 22 v1 rfl rfl) h1
  have k2 := h2
  have lt2 : ∀ x ∈ p2, x.block < W.heap.size := by obtain ⟨m, hm⟩ := k2; exact DataW.trod_lt m _ _ _ hm
  obtain ⟨a2, len2, cap2, rfl⟩ := okWide_slice Try.underlying23 (hval 2 23 v2 rfl rfl)
  obtain ⟨cs2, hl2, w2⟩ := open_chgs rfl h2
  subst hl2
  clear hA0 hval0
  refine (walk a0 a1 a2 cap2 cs2 W (bounds_i64 w0) (bounds_u64 w1) w2).mono fun e W' ⟨he, bel⟩ => ?_
  subst he
  exact ⟨_, rfl, _, _, _, [], _, [], hW', trodAll_mk1 (shut_bool Try.underlying4 _), (trodAll_cons_mk (shut_int Try.underlying3 w0) (trodAll_cons_mk (shut_int Try.underlying22 w1) (trodAll_cons_mk (Below.trod laidOut (by kernel_rfl) (of_decide_eq_true (by kernel_rfl)) k2 bel lt2) trodAll_mk0))), rfl, bel.frame _, fun h => by cases h⟩

theorem over : Rows.sealStepsRow.holds Try.pinned (OpenSpec.ofChange Rows.sealStepsSpec) :=
  OpenClaim.holds_of_wide 3 Try.f3 rfl rfl rfl rfl rfl rfl rfl ⟨rfl, rfl, rfl, rfl, rfl⟩ rfl rfl rfl rfl rfl (by kernel_rfl) Try.func3 (by kernel_rfl)
    (of_decide_eq_true (by kernel_rfl)) (by unfold Func.isWrapper; first | (rw [if_pos (by decide +kernel)]; kernel_rfl) | (rw [if_neg (by decide +kernel)]; exact ⟨rfl, rfl⟩))
    (fun os started H enc _ => lifted os started H enc)

theorem proved : Rows.SealStepsSaid := over
#print axioms proved
end Go.Proofs.Ytfalchacdebdpaa.sealSteps
