/- What is proved: the given statement StoreBackSaid: for every slice of changes and every number the law returns true, and its arguments read afterwards as before. There are no further conditions. -/
import Derived.Test.YthpajdhcgdllmaaRows
import Derived.Test.YthpajdhcgdllmaaStoL
import Derived.Test.YthpajdhcgdllmaaAr9
namespace Go.Proofs.Ythpajdhcgdllmaa.storeBack
open Go.RowKit Go.Maps Go.ChangeMaps Go.ChangeShapes Go.WideShapes Go.ChangeAt Go.Deep Go.Joins
set_option linter.unusedVariables false

/-- The law's second part, from Node on: where the view's cards are the memory's. -/
structure Cards (S : Vw) (M : Mem) : Prop where
  same : ∀ j : Int, 8 ≤ j → j < 200 → S.word M j = M.read j
theorem cards_new (M : Mem) : Cards Vw.new M := ⟨fun j _ _ => by unfold Vw.word Vw.new; simp⟩
theorem Cards.give {S : Vw} {M : Mem} (h : Cards S M) {k node : Int} (h0 : 0 ≤ k) (h1 : k < 96) : Cards (S.give k node) M := ⟨fun j j0 j1 => by
  rw [give_word S M k node j h0 h1 (by omega), if_neg (by omega)]; exact h.same j j0 j1⟩
theorem Cards.drop {S : Vw} {M : Mem} (h : Cards S M) {k : Int} (h0 : 0 ≤ k) : Cards (S.drop k) M := ⟨fun j j0 j1 => by
  rw [drop_word, if_neg (by omega)]; exact h.same j j0 j1⟩
/-- What is taken and given back is fresh as before. -/
theorem back_fresh {M : Mem} {k node j : Int} (h0 : 0 ≤ k) (h1 : k < 96) (hn : 0 ≤ node) (hf : freshB Vw.new M k = true) (j0 : 0 ≤ j) (j1 : j < 96) : freshB ((Vw.new.give k node).drop k) M j = freshB Vw.new M j := by
  rw [drop_fresh _ _ _ _ j0 j1]
  by_cases e : j = k
  · subst e
    rw [if_pos rfl, hf]
    rw [freshB_eq j0 j1] at hf
    simp only [Bool.and_eq_true] at hf
    have h1 := hf.1.1
    have h2 : ((Vw.new.give j node).away j) = false := rfl
    rw [h1, h2]
    rfl
  · rw [if_neg e, give_fresh _ _ _ _ _ h0 h1 hn j0 j1]
    simp [e]

set_option maxHeartbeats 8000000 in
theorem walk (a : Option Addr) (cap : Nat) (cs : List Chg) (node : Int) (w : World) (hcs : ChgIn w a cap cs) (_ : -9223372036854775808 ≤ node ∧ node ≤ 9223372036854775807) :
    Calls Try.prog 4 #[.slice a cs.length cap, .int .i64 node] w fun e w' => e = .returned (.bool true) ∧ Below w.heap.size w w' := by
  have HI : Hid (∀ w1, Below w.heap.size w w1 → Calls Try.prog 9 #[.slice a cs.length cap] w1 fun e w' => ∃ G f, e = .returned (.slice (some ⟨G, 0, none⟩) 2824 2824) ∧ RowIs w' G f ∧ (∀ i, i < 2824 → 0 ≤ f i ∧ f i ≤ 18446744073709551615) ∧ (cs.length = 0 → f = headN) ∧ w1.heap.size ≤ G ∧ Below w1.heap.size w1 w') := fun w1 hb =>
    imageSp_any a cs.length cap cs w1 (hcs.at_.later (Nat.le_refl _) hb) rfl (fun i hi => bounds_u64 (hcs.ok i hi).2) (fun i hi => (hcs.ok i hi).1) (Nat.le_trans hcs.le hcs.max)
  clear hcs
  go_enter Try.func4, Try.ntmps4
  go_wp2_with fail
  refine (lives_any _).mono ?_
  rintro e w0 ⟨rfl, hb0⟩
  have HB0 : Hid (Below w.heap.size w w0) := hb0
  clear hb0
  go_wp2_with fail
  refine Calls.mono (HI.out _ HB0.out) ?_
  rintro e w1 ⟨G, f, rfl, hr, hfo, _, _, hb1⟩
  have HB1 : Hid (Below w.heap.size w w1) := HB0.out.trans (hb1.mono HB0.out.size)
  go_wp2_with fail
  refine (load_img G f _ hr hfo).mono ?_
  rintro e w2 ⟨L, rfl, hm2, _, hb2⟩
  obtain ⟨M, hM⟩ : ∃ M, fresh (imgL f) = M := ⟨_, rfl⟩
  have hlen : M.sure.length = 2824 := by rw [← hM, fresh_sure]; exact imgL_len f
  rw [hM] at hm2
  have HM2 : Hid (MemIs w2 L M) := hm2
  have HLEN : Hid (M.sure.length = 2824) := hlen
  have HBB : Hid (Below w1.heap.size w1 w2) := hb2
  clear hr hb1 hm2 hb2 hfo hM hlen
  go_wp2_with fail
  refine (vnew_yes L M w2 HM2.out HLEN.out).mono ?_
  rintro e w3 ⟨rfl, hv3, hb3⟩
  have hs := begin_ses HB1.out HM2.out HBB.out hv3 hb3
  obtain ⟨V, hV⟩ : ∃ A, newLay L.mb w2.heap.size = A := ⟨_, rfl⟩
  rw [hV] at hs
  have HS3 : Hid (Ses w w3 V Vw.new 0 L M) := hs
  have HVV : Hid (V.vb = w2.heap.size) := by rw [← hV]; rfl
  rw [← HVV.out]
  clear hv3 hb3 hV hs HB1 HM2 HBB HB0 HI
  obtain ⟨F, hF⟩ : ∃ F, nFresh Vw.new M 96 = F := ⟨_, rfl⟩
  have HFE : Hid (nFresh Vw.new M 96 = F) := hF
  have hF96 : F ≤ 96 := by rw [← hF]; exact nFresh_le _ _ _
  clear hF
  have HF1 : Hid (Calls Try.prog 15 #[.pointer (some ⟨V.vb, 0, none⟩)] w3 fun e w' => e = .returned (.int .i64 F) ∧ Below w3.heap.size w3 w') := by
    have := free_any V Vw.new 0 L M w3 HS3.out.on
    rw [HFE.out] at this
    exact this
  go_wp2_with fail
  refine Calls.mono (Hid.out HF1) ?_
  rintro e w4 ⟨rfl, hb4⟩
  have HS4 : Hid (Ses w w4 V Vw.new 0 L M) := HS3.out.later hb4
  clear hb4 HF1 HS3
  by_cases hn : 0 ≤ node ∧ node < 24
  · obtain ⟨n0, n1⟩ := hn
    rcases first_or (fun j => freshB Vw.new M (j : Int)) 0 96 with ⟨q, _, hq, hfq, hlq⟩ | hnone
    · have hq96 : q < 96 := by omega
      have HFQ : Hid (freshB Vw.new M (q : Int) = true) := hfq
      have HQ : Hid (q < 96) := hq96
      have HN : Hid (0 ≤ node ∧ node < 24) := ⟨n0, n1⟩
      have HTK : Hid _ := take_yes V Vw.new 0 L M node q w4 HS4.out.on (by omega) n0 n1 hq96 hfq (fun j hj => hlq j (Nat.zero_le _) hj)
      clear hfq hlq hq
      go_wp2_with fail
      refine Calls.mono (Hid.out HTK) ?_
      rintro e w5 ⟨rfl, ho5, hx5⟩
      have HS5 : Hid (Ses w w5 V (Vw.new.give q node) 17 L M) := HS4.out.step ho5 hx5
      clear ho5 hx5 HTK
      have HOW : Hid (Calls Try.prog 16 #[.pointer (some ⟨V.vb, 0, none⟩), .int .i64 q] w5 fun e w' => e = .returned (.tuple #[.int .i64 node, .int .i64 0]) ∧ Below w5.heap.size w5 w') := by
        have := sowner_yes V _ 17 L M q w5 HS5.out.on (by omega) (by omega)
        rw [give_word _ _ _ _ _ (by omega) (by omega) (by omega), if_pos rfl] at this
        unfold ownerOf at this
        rw [if_neg (by omega), if_neg (by omega), show node + 1 - 1 = node by omega] at this
        exact this
      go_wp2_with fail
      refine Calls.mono (Hid.out HOW) ?_
      rintro e w6 ⟨rfl, hb6⟩
      have HS6 : Hid (Ses w w6 V (Vw.new.give q node) 17 L M) := HS5.out.later hb6
      clear hb6 HOW
      have hless : nFresh Vw.new M 96 = nFresh (Vw.new.give q node) M 96 + (if q < 96 then 1 else 0) := nFresh_less 96 q HFQ.out fun j hj => give_fresh _ _ _ _ _ (by omega) (by omega) n0 (by omega) (by omega)
      rw [if_pos HQ.out, HFE.out] at hless
      have HF2 : Hid (Calls Try.prog 15 #[.pointer (some ⟨V.vb, 0, none⟩)] w6 fun e w' => e = .returned (.int .i64 ((F : Int) - 1)) ∧ Below w6.heap.size w6 w') := by
        have := free_any V _ 17 L M w6 HS6.out.on
        rw [show ((nFresh (Vw.new.give q node) M 96 : Nat) : Int) = (F : Int) - 1 by omega] at this
        exact this
      have hsame : nFresh ((Vw.new.give q node).drop q) M 96 = F := by
        rw [← HFE.out]; exact nFresh_congr 96 fun j hj => back_fresh (by omega) (by omega) n0 HFQ.out (by omega) (by omega)
      clear hless
      have HD1 : Hid (∀ w', Ses w w' V (Vw.new.give q node) 17 L M → Calls Try.prog 17 #[.pointer (some ⟨V.vb, 0, none⟩), .int .i64 q] w' fun e w2 => e = .returned (.int .i64 0) ∧ Ses w w2 V ((Vw.new.give q node).drop q) 18 L M) := fun w' hs =>
        (drop_yes V _ 17 L M q w' hs.on (by omega) (by omega) (by omega) (by rw [give_word _ _ _ _ _ (by omega) (by omega) (by omega), if_pos rfl]; omega)).mono fun _ _ ⟨h1, h2, h3⟩ => ⟨h1, hs.step h2 h3⟩
      have HF3 : Hid (∀ w', Ses w w' V ((Vw.new.give q node).drop q) 18 L M → Calls Try.prog 15 #[.pointer (some ⟨V.vb, 0, none⟩)] w' fun e w2 => e = .returned (.int .i64 F) ∧ Ses w w2 V ((Vw.new.give q node).drop q) 18 L M) := fun w' hs => by
        have := free_any V _ 18 L M w' hs.on
        rw [hsame] at this
        exact this.mono fun _ _ ⟨h1, h2⟩ => ⟨h1, hs.later h2⟩
      have HD2 : Hid (∀ w', Ses w w' V ((Vw.new.give q node).drop q) 18 L M → Calls Try.prog 17 #[.pointer (some ⟨V.vb, 0, none⟩), .int .i64 q] w' fun e w2 => e = .returned (.int .i64 15) ∧ Ses w w2 V ((Vw.new.give q node).drop q) 18 L M) := fun w' hs =>
        (drop_free V _ 18 L M q w' hs.on (by omega) (by omega) (by rw [drop_word, if_pos rfl])).mono fun _ _ ⟨h1, h2⟩ => ⟨h1, hs.later h2⟩
      clear hsame n0 n1
      obtain ⟨S, hS⟩ : ∃ S, (Vw.new.give q node).drop q = S := ⟨_, rfl⟩
      have HSE : Hid ((Vw.new.give q node).drop q = S) := hS
      have HCS : Hid (Cards S M) := by rw [← hS]; exact ((cards_new M).give (by omega) (by have := HQ.out; omega)).drop (by omega)
      clear hS
      rcases first_or (fun j => freeN S M (j : Int)) 2 22 with ⟨q2, h2, hq2, hfq2, hlq2⟩ | hnone2
      · obtain ⟨was, hwas⟩ : ∃ x, M.read (8 + 8 * (q2 : Int) + 1) = x := ⟨_, rfl⟩
        have hS1 : S.word M (8 + 8 * (q2 : Int) + 1) = was := by rw [← hwas]; exact HCS.out.same _ (by omega) (by omega)
        obtain ⟨v, hv⟩ : ∃ v, IntKind.u64.wrap (was + 1) = v := ⟨_, rfl⟩
        obtain ⟨v2, hv2⟩ : ∃ v2, IntKind.u64.wrap (v + 1) = v2 := ⟨_, rfl⟩
        have hvv : IntKind.u64.wrap (was + 2) = v2 := by
          rw [← hv2, ← hv, IntKind.wrap_u64, IntKind.wrap_u64, IntKind.wrap_u64]; omega
        obtain ⟨S1, hS1e⟩ : ∃ S1, S.setC q2 3 1 0 v (-1) (-1) (-1) (-1) (-1) (-1) = S1 := ⟨_, rfl⟩
        have HNO : Hid (∀ w', Ses w w' V S 18 L M → Calls Try.prog 12 #[.pointer (some ⟨V.vb, 0, none⟩), .int .i64 3] w' fun e w2 => e = .returned (.tuple #[.int .i64 q2, .int .i64 0]) ∧ Ses w w2 V S1 28 L M) := fun w' hs => by
          have := node_yes V S 18 L M 3 w' hs.on (.inr (.inr rfl)) q2 v (by omega) h2 (by omega) hfq2 (fun j hj1 hj2 => hlq2 j hj1 hj2) (by rw [hS1]; exact hv)
          rw [hS1e] at this
          exact this.mono fun _ _ ⟨h1, h2, h3⟩ => ⟨h1, hs.step h2 h3⟩
        have HMR : Hid (∀ w', Ses w w' V S1 28 L M → Calls Try.prog 19 #[.pointer (some ⟨L.mb, 0, none⟩), .int .i64 (8 + 8 * (q2 : Int) + 1)] w' fun e w2 => e = .returned (.int .u64 was) ∧ w2 = w') := fun w' hs => by
          rw [← hwas]; exact read_any L M _ w' hs.on.mem (WalkArith.wf_i64 (by omega))
        have HCA : Hid (∀ w, Calls Try.prog 18 #[.int .i64 q2] w fun e w' => e = .returned (.tuple #[.int .i64 (8 + 8 * (q2 : Int)), .int .i64 0]) ∧ w' = w) := fun w => card_at q2 w (by omega) (by omega)
        have HS1C : Hid (S1.cardAt M q2 3 1 0 v (-1) (-1) (-1) (-1) (-1) (-1)) := by rw [← hS1e]; exact setC_card _ _ _ _ _ _ _ _ _ _ _ _ _
        obtain ⟨S2, hS2e⟩ : ∃ S2, ((({ S1 with seen := addB S1.seen q2 } : Vw)).setC q2 0 0 0 v2 (-1) (-1) (-1) (-1) (-1) (-1)) = S2 := ⟨_, rfl⟩
        have HS2C : Hid (S2.cardAt M q2 0 0 0 v2 (-1) (-1) (-1) (-1) (-1) (-1)) := by rw [← hS2e]; exact setC_card _ _ _ _ _ _ _ _ _ _ _ _ _
        have HR1 : Hid (∀ w', Ses w w' V S1 28 L M → Calls Try.prog 20 #[.pointer (some ⟨V.vb, 0, none⟩), .int .i64 q2] w' fun e w2 => e = .returned (.int .i64 0) ∧ Ses w w2 V S2 39 L M) := fun w' hs => by
          have := release_yes V S1 28 L M q2 3 1 0 v v2 (-1) (-1) (-1) (-1) (-1) (-1) w' hs.on (by omega) (by omega) (by omega) (rt_fresh (.inr (.inr rfl))) (by omega) HS1C.out hv2
          rw [hS2e] at this
          exact this.mono fun _ _ ⟨h1, h2, h3⟩ => ⟨h1, hs.step h2 h3⟩
        obtain ⟨S3, hS3e⟩ : ∃ S3, ({ S2 with seen := addB S2.seen q2 } : Vw) = S3 := ⟨_, rfl⟩
        have HS3C : Hid (S3.cardAt M q2 0 0 0 v2 (-1) (-1) (-1) (-1) (-1) (-1)) := by rw [← hS3e]; exact HS2C.out
        have HCD : Hid (∀ w', Ses w w' V S2 39 L M → Calls Try.prog 21 #[.pointer (some ⟨V.vb, 0, none⟩), .int .i64 q2] w' fun e w2 => e = .returned (.tuple #[.agg #[.int .i64 0, .int .i64 0, .int .i64 0, .int .u64 v2, .int .i64 (-1), .int .i64 (-1), .int .i64 (-1), .int .i64 (-1), .int .i64 (-1), .int .i64 (-1)], .int .i64 0]) ∧ Ses w w2 V S3 40 L M) := fun w' hs => by
          have := vcard_back V S2 39 L M q2 0 0 0 v2 (-1) (-1) (-1) (-1) (-1) (-1) w' hs.on (by omega) (by omega) (by omega) rt_none HS2C.out
          rw [hS3e] at this
          exact this.mono fun _ _ ⟨h1, h2, h3⟩ => ⟨h1, hs.step h2 h3⟩
        have HR2 : Hid (∀ w', Ses w w' V S3 40 L M → Calls Try.prog 20 #[.pointer (some ⟨V.vb, 0, none⟩), .int .i64 q2] w' fun e w2 => e = .returned (.int .i64 15) ∧ Below w.heap.size w w2) := fun w' hs =>
          (release_none V S3 40 L M q2 v2 w' hs.on (by omega) (by omega) (by omega) HS3C.out).mono fun _ _ ⟨h1, h2, h3⟩ => ⟨h1, (hs.step h2 h3).bel⟩
        have hq24 : (q2 : Int) < 24 := by omega
        clear hfq2 hlq2 hS1 hv hv2 hwas hS1e hS2e hS3e HS1C HS2C HS3C hq2 HCS
        go_wp2_with (first
          | (go_at_call 15; refine Calls.mono (Hid.out HF2) ?_; rintro e w7 ⟨rfl, hb7⟩; have HS7 : Hid (Ses w w7 V (Vw.new.give q node) 17 L M) := HS6.out.later hb7; clear hb7 HF2)
          | (go_at_call 17; refine Calls.mono (HD1.out _ HS7.out) ?_; rintro e w8 ⟨rfl, hs8⟩; have HS8 : Hid (Ses w w8 V ((Vw.new.give q node).drop q) 18 L M) := hs8; clear hs8 HD1 HS7)
          | (go_at_call 15; refine Calls.mono (HF3.out _ HS8.out) ?_; rintro e w9 ⟨rfl, hs9⟩; have HS9 : Hid (Ses w w9 V ((Vw.new.give q node).drop q) 18 L M) := hs9; clear hs9 HF3)
          | (go_at_call 17; refine Calls.mono (HD2.out _ HS9.out) ?_; rintro e w10 ⟨rfl, hs10⟩; have HX : Hid (Ses w w10 V S 18 L M) := (by rw [← HSE.out]; exact hs10); clear hs10 HD2)
          | (go_at_call 12; refine Calls.mono (HNO.out _ HX.out) ?_; rintro e y1 ⟨rfl, hs⟩; have HY1 : Hid (Ses w y1 V S1 28 L M) := hs; clear hs HNO)
          | (go_at_call 18; refine Calls.mono (HCA.out _) ?_; rintro e w' ⟨rfl, hw⟩; obtain rfl := hw.symm)
          | (go_at_call 19; refine Calls.mono (HMR.out _ HY1.out) ?_; rintro e w' ⟨rfl, hw⟩; obtain rfl := hw.symm)
          | (go_at_call 20; refine Calls.mono (HR1.out _ HY1.out) ?_; rintro e y2 ⟨rfl, hs⟩; have HY2 : Hid (Ses w y2 V S2 39 L M) := hs; clear hs HR1 HY1)
          | (go_at_call 21; refine Calls.mono (HCD.out _ HY2.out) ?_; rintro e y3 ⟨rfl, hs⟩
             have HY3 : Hid (Ses w y3 V S3 40 L M) := hs
             obtain ⟨W, hW, HSZ, HE, HCELL⟩ := Cd.new_card y3 0 0 0 v2 (-1) (-1) (-1) (-1) (-1) (-1)
             have HBW : Hid (Below y3.heap.size y3 W) := HE.out W (Below.refl _ _)
             obtain ⟨c0, c1, c2, c3, c4, c5, c6, c7, c8, c9⟩ := HCELL.out W (Below.refl _ _)
             rw [← hW] at c0 c3 HBW
             clear hs hW c1 c2 c4 c5 c6 c7 c8 c9 HSZ HE HCELL)
          | (go_at_call 20; refine Calls.mono (HR2.out _ (HY3.out.later HBW.out)) ?_; rintro e y4 ⟨rfl, hbb⟩; have HY4 : Hid (Below w.heap.size w y4) := hbb; clear hbb HR2)
          | go_in)
        go_ret
        exact ⟨rfl, HY4.out⟩
      · have HNO : Hid (∀ w', Ses w w' V S 18 L M → Calls Try.prog 12 #[.pointer (some ⟨V.vb, 0, none⟩), .int .i64 3] w' fun e w2 => e = .returned (.tuple #[.int .i64 0, .int .i64 9]) ∧ Below w.heap.size w w2) := fun w' hs =>
          (node_full V S 18 L M 3 w' hs.on (.inr (.inr rfl)) (fun j hj1 hj2 => hnone2 j hj1 (by omega))).mono fun _ _ ⟨h1, h2⟩ => ⟨h1, (hs.later h2).bel⟩
        clear hnone2 HCS
        go_wp2_with (first
          | (go_at_call 15; refine Calls.mono (Hid.out HF2) ?_; rintro e w7 ⟨rfl, hb7⟩; have HS7 : Hid (Ses w w7 V (Vw.new.give q node) 17 L M) := HS6.out.later hb7; clear hb7 HF2)
          | (go_at_call 17; refine Calls.mono (HD1.out _ HS7.out) ?_; rintro e w8 ⟨rfl, hs8⟩; have HS8 : Hid (Ses w w8 V ((Vw.new.give q node).drop q) 18 L M) := hs8; clear hs8 HD1 HS7)
          | (go_at_call 15; refine Calls.mono (HF3.out _ HS8.out) ?_; rintro e w9 ⟨rfl, hs9⟩; have HS9 : Hid (Ses w w9 V ((Vw.new.give q node).drop q) 18 L M) := hs9; clear hs9 HF3)
          | (go_at_call 17; refine Calls.mono (HD2.out _ HS9.out) ?_; rintro e w10 ⟨rfl, hs10⟩; have HX : Hid (Ses w w10 V S 18 L M) := (by rw [← HSE.out]; exact hs10); clear hs10 HD2)
          | (go_at_call 12; refine Calls.mono (HNO.out _ HX.out) ?_; rintro e y1 ⟨rfl, hs⟩; have HY4 : Hid (Below w.heap.size w y1) := hs; clear hs HNO)
          | go_in)
        go_ret
        exact ⟨rfl, HY4.out⟩
    · have HTK : Hid _ := take_full V Vw.new 0 L M node w4 HS4.out.on n0 n1 (fun j hj => hnone j (Nat.zero_le _) (by omega))
      clear hnone
      go_wp2_with fail
      refine Calls.mono (Hid.out HTK) ?_
      rintro e w5 ⟨rfl, hb5⟩
      have HS5 : Hid (Ses w w5 V Vw.new 0 L M) := HS4.out.later hb5
      clear hb5 HTK
      obtain ⟨S, hS⟩ : ∃ S, Vw.new = S := ⟨_, rfl⟩
      have HSE : Hid (Vw.new = S) := hS
      have HCS : Hid (Cards S M) := by rw [← hS]; exact cards_new M
      clear hS
      rcases first_or (fun j => freeN S M (j : Int)) 2 22 with ⟨q2, h2, hq2, hfq2, hlq2⟩ | hnone2
      · obtain ⟨was, hwas⟩ : ∃ x, M.read (8 + 8 * (q2 : Int) + 1) = x := ⟨_, rfl⟩
        have hS1 : S.word M (8 + 8 * (q2 : Int) + 1) = was := by rw [← hwas]; exact HCS.out.same _ (by omega) (by omega)
        obtain ⟨v, hv⟩ : ∃ v, IntKind.u64.wrap (was + 1) = v := ⟨_, rfl⟩
        obtain ⟨v2, hv2⟩ : ∃ v2, IntKind.u64.wrap (v + 1) = v2 := ⟨_, rfl⟩
        have hvv : IntKind.u64.wrap (was + 2) = v2 := by
          rw [← hv2, ← hv, IntKind.wrap_u64, IntKind.wrap_u64, IntKind.wrap_u64]; omega
        obtain ⟨S1, hS1e⟩ : ∃ S1, S.setC q2 3 1 0 v (-1) (-1) (-1) (-1) (-1) (-1) = S1 := ⟨_, rfl⟩
        have HNO : Hid (∀ w', Ses w w' V S 18 L M → Calls Try.prog 12 #[.pointer (some ⟨V.vb, 0, none⟩), .int .i64 3] w' fun e w2 => e = .returned (.tuple #[.int .i64 q2, .int .i64 0]) ∧ Ses w w2 V S1 28 L M) := fun w' hs => by
          have := node_yes V S 18 L M 3 w' hs.on (.inr (.inr rfl)) q2 v (by omega) h2 (by omega) hfq2 (fun j hj1 hj2 => hlq2 j hj1 hj2) (by rw [hS1]; exact hv)
          rw [hS1e] at this
          exact this.mono fun _ _ ⟨h1, h2, h3⟩ => ⟨h1, hs.step h2 h3⟩
        have HMR : Hid (∀ w', Ses w w' V S1 28 L M → Calls Try.prog 19 #[.pointer (some ⟨L.mb, 0, none⟩), .int .i64 (8 + 8 * (q2 : Int) + 1)] w' fun e w2 => e = .returned (.int .u64 was) ∧ w2 = w') := fun w' hs => by
          rw [← hwas]; exact read_any L M _ w' hs.on.mem (WalkArith.wf_i64 (by omega))
        have HCA : Hid (∀ w, Calls Try.prog 18 #[.int .i64 q2] w fun e w' => e = .returned (.tuple #[.int .i64 (8 + 8 * (q2 : Int)), .int .i64 0]) ∧ w' = w) := fun w => card_at q2 w (by omega) (by omega)
        have HS1C : Hid (S1.cardAt M q2 3 1 0 v (-1) (-1) (-1) (-1) (-1) (-1)) := by rw [← hS1e]; exact setC_card _ _ _ _ _ _ _ _ _ _ _ _ _
        obtain ⟨S2, hS2e⟩ : ∃ S2, ((({ S1 with seen := addB S1.seen q2 } : Vw)).setC q2 0 0 0 v2 (-1) (-1) (-1) (-1) (-1) (-1)) = S2 := ⟨_, rfl⟩
        have HS2C : Hid (S2.cardAt M q2 0 0 0 v2 (-1) (-1) (-1) (-1) (-1) (-1)) := by rw [← hS2e]; exact setC_card _ _ _ _ _ _ _ _ _ _ _ _ _
        have HR1 : Hid (∀ w', Ses w w' V S1 28 L M → Calls Try.prog 20 #[.pointer (some ⟨V.vb, 0, none⟩), .int .i64 q2] w' fun e w2 => e = .returned (.int .i64 0) ∧ Ses w w2 V S2 39 L M) := fun w' hs => by
          have := release_yes V S1 28 L M q2 3 1 0 v v2 (-1) (-1) (-1) (-1) (-1) (-1) w' hs.on (by omega) (by omega) (by omega) (rt_fresh (.inr (.inr rfl))) (by omega) HS1C.out hv2
          rw [hS2e] at this
          exact this.mono fun _ _ ⟨h1, h2, h3⟩ => ⟨h1, hs.step h2 h3⟩
        obtain ⟨S3, hS3e⟩ : ∃ S3, ({ S2 with seen := addB S2.seen q2 } : Vw) = S3 := ⟨_, rfl⟩
        have HS3C : Hid (S3.cardAt M q2 0 0 0 v2 (-1) (-1) (-1) (-1) (-1) (-1)) := by rw [← hS3e]; exact HS2C.out
        have HCD : Hid (∀ w', Ses w w' V S2 39 L M → Calls Try.prog 21 #[.pointer (some ⟨V.vb, 0, none⟩), .int .i64 q2] w' fun e w2 => e = .returned (.tuple #[.agg #[.int .i64 0, .int .i64 0, .int .i64 0, .int .u64 v2, .int .i64 (-1), .int .i64 (-1), .int .i64 (-1), .int .i64 (-1), .int .i64 (-1), .int .i64 (-1)], .int .i64 0]) ∧ Ses w w2 V S3 40 L M) := fun w' hs => by
          have := vcard_back V S2 39 L M q2 0 0 0 v2 (-1) (-1) (-1) (-1) (-1) (-1) w' hs.on (by omega) (by omega) (by omega) rt_none HS2C.out
          rw [hS3e] at this
          exact this.mono fun _ _ ⟨h1, h2, h3⟩ => ⟨h1, hs.step h2 h3⟩
        have HR2 : Hid (∀ w', Ses w w' V S3 40 L M → Calls Try.prog 20 #[.pointer (some ⟨V.vb, 0, none⟩), .int .i64 q2] w' fun e w2 => e = .returned (.int .i64 15) ∧ Below w.heap.size w w2) := fun w' hs =>
          (release_none V S3 40 L M q2 v2 w' hs.on (by omega) (by omega) (by omega) HS3C.out).mono fun _ _ ⟨h1, h2, h3⟩ => ⟨h1, (hs.step h2 h3).bel⟩
        have hq24 : (q2 : Int) < 24 := by omega
        clear hfq2 hlq2 hS1 hv hv2 hwas hS1e hS2e hS3e HS1C HS2C HS3C hq2 HCS
        have HX : Hid (Ses w w5 V S 18 L M) := by rw [← HSE.out]; exact HS5.out.mono (by omega)
        go_wp2_with (first
          | (go_at_call 12; refine Calls.mono (HNO.out _ HX.out) ?_; rintro e y1 ⟨rfl, hs⟩; have HY1 : Hid (Ses w y1 V S1 28 L M) := hs; clear hs HNO)
          | (go_at_call 18; refine Calls.mono (HCA.out _) ?_; rintro e w' ⟨rfl, hw⟩; obtain rfl := hw.symm)
          | (go_at_call 19; refine Calls.mono (HMR.out _ HY1.out) ?_; rintro e w' ⟨rfl, hw⟩; obtain rfl := hw.symm)
          | (go_at_call 20; refine Calls.mono (HR1.out _ HY1.out) ?_; rintro e y2 ⟨rfl, hs⟩; have HY2 : Hid (Ses w y2 V S2 39 L M) := hs; clear hs HR1 HY1)
          | (go_at_call 21; refine Calls.mono (HCD.out _ HY2.out) ?_; rintro e y3 ⟨rfl, hs⟩
             have HY3 : Hid (Ses w y3 V S3 40 L M) := hs
             obtain ⟨W, hW, HSZ, HE, HCELL⟩ := Cd.new_card y3 0 0 0 v2 (-1) (-1) (-1) (-1) (-1) (-1)
             have HBW : Hid (Below y3.heap.size y3 W) := HE.out W (Below.refl _ _)
             obtain ⟨c0, c1, c2, c3, c4, c5, c6, c7, c8, c9⟩ := HCELL.out W (Below.refl _ _)
             rw [← hW] at c0 c3 HBW
             clear hs hW c1 c2 c4 c5 c6 c7 c8 c9 HSZ HE HCELL)
          | (go_at_call 20; refine Calls.mono (HR2.out _ (HY3.out.later HBW.out)) ?_; rintro e y4 ⟨rfl, hbb⟩; have HY4 : Hid (Below w.heap.size w y4) := hbb; clear hbb HR2)
          | go_in)
        go_ret
        exact ⟨rfl, HY4.out⟩
      · have HNO : Hid (∀ w', Ses w w' V S 18 L M → Calls Try.prog 12 #[.pointer (some ⟨V.vb, 0, none⟩), .int .i64 3] w' fun e w2 => e = .returned (.tuple #[.int .i64 0, .int .i64 9]) ∧ Below w.heap.size w w2) := fun w' hs =>
          (node_full V S 18 L M 3 w' hs.on (.inr (.inr rfl)) (fun j hj1 hj2 => hnone2 j hj1 (by omega))).mono fun _ _ ⟨h1, h2⟩ => ⟨h1, (hs.later h2).bel⟩
        clear hnone2 HCS
        have HX : Hid (Ses w w5 V S 18 L M) := by rw [← HSE.out]; exact HS5.out.mono (by omega)
        go_wp2_with (first
          | (go_at_call 12; refine Calls.mono (HNO.out _ HX.out) ?_; rintro e y1 ⟨rfl, hs⟩; have HY4 : Hid (Below w.heap.size w y1) := hs; clear hs HNO)
          | go_in)
        go_ret
        exact ⟨rfl, HY4.out⟩
  · have HTK : Hid _ := take_no V Vw.new 0 L M node w4 HS4.out.on (by omega)
    go_wp2_with fail
    refine Calls.mono (Hid.out HTK) ?_
    rintro e w5 ⟨rfl, hw⟩
    obtain rfl := hw.symm
    clear HTK
    obtain ⟨S, hS⟩ : ∃ S, Vw.new = S := ⟨_, rfl⟩
    have HSE : Hid (Vw.new = S) := hS
    have HCS : Hid (Cards S M) := by rw [← hS]; exact cards_new M
    clear hS
    rcases first_or (fun j => freeN S M (j : Int)) 2 22 with ⟨q2, h2, hq2, hfq2, hlq2⟩ | hnone2
    · obtain ⟨was, hwas⟩ : ∃ x, M.read (8 + 8 * (q2 : Int) + 1) = x := ⟨_, rfl⟩
      have hS1 : S.word M (8 + 8 * (q2 : Int) + 1) = was := by rw [← hwas]; exact HCS.out.same _ (by omega) (by omega)
      obtain ⟨v, hv⟩ : ∃ v, IntKind.u64.wrap (was + 1) = v := ⟨_, rfl⟩
      obtain ⟨v2, hv2⟩ : ∃ v2, IntKind.u64.wrap (v + 1) = v2 := ⟨_, rfl⟩
      have hvv : IntKind.u64.wrap (was + 2) = v2 := by
        rw [← hv2, ← hv, IntKind.wrap_u64, IntKind.wrap_u64, IntKind.wrap_u64]; omega
      obtain ⟨S1, hS1e⟩ : ∃ S1, S.setC q2 3 1 0 v (-1) (-1) (-1) (-1) (-1) (-1) = S1 := ⟨_, rfl⟩
      have HNO : Hid (∀ w', Ses w w' V S 18 L M → Calls Try.prog 12 #[.pointer (some ⟨V.vb, 0, none⟩), .int .i64 3] w' fun e w2 => e = .returned (.tuple #[.int .i64 q2, .int .i64 0]) ∧ Ses w w2 V S1 28 L M) := fun w' hs => by
        have := node_yes V S 18 L M 3 w' hs.on (.inr (.inr rfl)) q2 v (by omega) h2 (by omega) hfq2 (fun j hj1 hj2 => hlq2 j hj1 hj2) (by rw [hS1]; exact hv)
        rw [hS1e] at this
        exact this.mono fun _ _ ⟨h1, h2, h3⟩ => ⟨h1, hs.step h2 h3⟩
      have HMR : Hid (∀ w', Ses w w' V S1 28 L M → Calls Try.prog 19 #[.pointer (some ⟨L.mb, 0, none⟩), .int .i64 (8 + 8 * (q2 : Int) + 1)] w' fun e w2 => e = .returned (.int .u64 was) ∧ w2 = w') := fun w' hs => by
        rw [← hwas]; exact read_any L M _ w' hs.on.mem (WalkArith.wf_i64 (by omega))
      have HCA : Hid (∀ w, Calls Try.prog 18 #[.int .i64 q2] w fun e w' => e = .returned (.tuple #[.int .i64 (8 + 8 * (q2 : Int)), .int .i64 0]) ∧ w' = w) := fun w => card_at q2 w (by omega) (by omega)
      have HS1C : Hid (S1.cardAt M q2 3 1 0 v (-1) (-1) (-1) (-1) (-1) (-1)) := by rw [← hS1e]; exact setC_card _ _ _ _ _ _ _ _ _ _ _ _ _
      obtain ⟨S2, hS2e⟩ : ∃ S2, ((({ S1 with seen := addB S1.seen q2 } : Vw)).setC q2 0 0 0 v2 (-1) (-1) (-1) (-1) (-1) (-1)) = S2 := ⟨_, rfl⟩
      have HS2C : Hid (S2.cardAt M q2 0 0 0 v2 (-1) (-1) (-1) (-1) (-1) (-1)) := by rw [← hS2e]; exact setC_card _ _ _ _ _ _ _ _ _ _ _ _ _
      have HR1 : Hid (∀ w', Ses w w' V S1 28 L M → Calls Try.prog 20 #[.pointer (some ⟨V.vb, 0, none⟩), .int .i64 q2] w' fun e w2 => e = .returned (.int .i64 0) ∧ Ses w w2 V S2 39 L M) := fun w' hs => by
        have := release_yes V S1 28 L M q2 3 1 0 v v2 (-1) (-1) (-1) (-1) (-1) (-1) w' hs.on (by omega) (by omega) (by omega) (rt_fresh (.inr (.inr rfl))) (by omega) HS1C.out hv2
        rw [hS2e] at this
        exact this.mono fun _ _ ⟨h1, h2, h3⟩ => ⟨h1, hs.step h2 h3⟩
      obtain ⟨S3, hS3e⟩ : ∃ S3, ({ S2 with seen := addB S2.seen q2 } : Vw) = S3 := ⟨_, rfl⟩
      have HS3C : Hid (S3.cardAt M q2 0 0 0 v2 (-1) (-1) (-1) (-1) (-1) (-1)) := by rw [← hS3e]; exact HS2C.out
      have HCD : Hid (∀ w', Ses w w' V S2 39 L M → Calls Try.prog 21 #[.pointer (some ⟨V.vb, 0, none⟩), .int .i64 q2] w' fun e w2 => e = .returned (.tuple #[.agg #[.int .i64 0, .int .i64 0, .int .i64 0, .int .u64 v2, .int .i64 (-1), .int .i64 (-1), .int .i64 (-1), .int .i64 (-1), .int .i64 (-1), .int .i64 (-1)], .int .i64 0]) ∧ Ses w w2 V S3 40 L M) := fun w' hs => by
        have := vcard_back V S2 39 L M q2 0 0 0 v2 (-1) (-1) (-1) (-1) (-1) (-1) w' hs.on (by omega) (by omega) (by omega) rt_none HS2C.out
        rw [hS3e] at this
        exact this.mono fun _ _ ⟨h1, h2, h3⟩ => ⟨h1, hs.step h2 h3⟩
      have HR2 : Hid (∀ w', Ses w w' V S3 40 L M → Calls Try.prog 20 #[.pointer (some ⟨V.vb, 0, none⟩), .int .i64 q2] w' fun e w2 => e = .returned (.int .i64 15) ∧ Below w.heap.size w w2) := fun w' hs =>
        (release_none V S3 40 L M q2 v2 w' hs.on (by omega) (by omega) (by omega) HS3C.out).mono fun _ _ ⟨h1, h2, h3⟩ => ⟨h1, (hs.step h2 h3).bel⟩
      have hq24 : (q2 : Int) < 24 := by omega
      clear hfq2 hlq2 hS1 hv hv2 hwas hS1e hS2e hS3e HS1C HS2C HS3C hq2 HCS
      have HX : Hid (Ses w w4 V S 18 L M) := by rw [← HSE.out]; exact HS4.out.mono (by omega)
      go_wp2_with (first
        | (go_at_call 12; refine Calls.mono (HNO.out _ HX.out) ?_; rintro e y1 ⟨rfl, hs⟩; have HY1 : Hid (Ses w y1 V S1 28 L M) := hs; clear hs HNO)
        | (go_at_call 18; refine Calls.mono (HCA.out _) ?_; rintro e w' ⟨rfl, hw⟩; obtain rfl := hw.symm)
        | (go_at_call 19; refine Calls.mono (HMR.out _ HY1.out) ?_; rintro e w' ⟨rfl, hw⟩; obtain rfl := hw.symm)
        | (go_at_call 20; refine Calls.mono (HR1.out _ HY1.out) ?_; rintro e y2 ⟨rfl, hs⟩; have HY2 : Hid (Ses w y2 V S2 39 L M) := hs; clear hs HR1 HY1)
        | (go_at_call 21; refine Calls.mono (HCD.out _ HY2.out) ?_; rintro e y3 ⟨rfl, hs⟩
           have HY3 : Hid (Ses w y3 V S3 40 L M) := hs
           obtain ⟨W, hW, HSZ, HE, HCELL⟩ := Cd.new_card y3 0 0 0 v2 (-1) (-1) (-1) (-1) (-1) (-1)
           have HBW : Hid (Below y3.heap.size y3 W) := HE.out W (Below.refl _ _)
           obtain ⟨c0, c1, c2, c3, c4, c5, c6, c7, c8, c9⟩ := HCELL.out W (Below.refl _ _)
           rw [← hW] at c0 c3 HBW
           clear hs hW c1 c2 c4 c5 c6 c7 c8 c9 HSZ HE HCELL)
        | (go_at_call 20; refine Calls.mono (HR2.out _ (HY3.out.later HBW.out)) ?_; rintro e y4 ⟨rfl, hbb⟩; have HY4 : Hid (Below w.heap.size w y4) := hbb; clear hbb HR2)
        | go_in)
      go_ret
      exact ⟨rfl, HY4.out⟩
    · have HNO : Hid (∀ w', Ses w w' V S 18 L M → Calls Try.prog 12 #[.pointer (some ⟨V.vb, 0, none⟩), .int .i64 3] w' fun e w2 => e = .returned (.tuple #[.int .i64 0, .int .i64 9]) ∧ Below w.heap.size w w2) := fun w' hs =>
        (node_full V S 18 L M 3 w' hs.on (.inr (.inr rfl)) (fun j hj1 hj2 => hnone2 j hj1 (by omega))).mono fun _ _ ⟨h1, h2⟩ => ⟨h1, (hs.later h2).bel⟩
      clear hnone2 HCS
      have HX : Hid (Ses w w4 V S 18 L M) := by rw [← HSE.out]; exact HS4.out.mono (by omega)
      go_wp2_with (first
        | (go_at_call 12; refine Calls.mono (HNO.out _ HX.out) ?_; rintro e y1 ⟨rfl, hs⟩; have HY4 : Hid (Below w.heap.size w y1) := hs; clear hs HNO)
        | go_in)
      go_ret
      exact ⟨rfl, HY4.out⟩

set_option maxRecDepth 100000 in
theorem lifted (os : Os) (started : os.Started) (H : Type) (enc : TypeId × Value → H) :
    ReturnsInHanded {} Try.checked os 4 .any (Rows.storeBackSpec.pre6 enc Try.prog Try.f4 Rows.storeBackRow.domain false) (Rows.storeBackSpec.post enc Try.prog Try.f4 false true false false) := by
  refine returnsInHanded_of_change (C := Try.checked) own started (by kernel_rfl) Try.func4
    (ChangeSpec.witness6 (enc := enc) (C := Try.checked) false ⟨#[], #[.slice none 0 0, .int .i64 0], []⟩ 8 (by kernel_rfl) (by kernel_rfl) (by kernel_rfl) (by kernel_rfl)) ?_
  intro W base args ds gs before hval0 hW hcnd _
  have hval : ∀ (j : Nat) t v, Try.f4.params[j]? = some t → args[j]? = some v → Value.okWide Try.prog W .any base t v := hval0
  have hW' := hW
  obtain ⟨p, q, hA0, hV, rfl, hfz, hnd⟩ := hW
  have hA : DataW.TrodAll enc Try.prog W 0 (fun _ => true) true Try.f4.params.toList args.toList ds p := hA0
  rw [Try.params4] at hA hval
  obtain ⟨v0, vs0, d0, ds0, p0, q0, hargs, rfl, rfl, h0, r0⟩ := trodAll_cons hA
  obtain ⟨v1, vs1, d1, ds1, p1, q1, rfl, rfl, rfl, h1, r1⟩ := trodAll_cons r0
  obtain ⟨rfl, rfl, rfl⟩ := trodAll_nil r1
  obtain rfl : args = #[v0, v1] := by cases args; simp_all
  obtain ⟨rfl, rfl⟩ := trodVars_none hV
  have k0 := h0
  have lt0 : ∀ x ∈ p0, x.block < W.heap.size := by obtain ⟨m, hm⟩ := k0; exact DataW.trod_lt m _ _ _ hm
  obtain ⟨a0, len0, cap0, rfl⟩ := okWide_slice Try.underlying39 (hval 0 39 v0 rfl rfl)
  obtain ⟨cs0, hl0, w0⟩ := open_chgs rfl h0
  subst hl0
  obtain ⟨a1, rfl, rfl, rfl, w1⟩ := open_int Try.underlying3 (hval 1 3 v1 rfl rfl) h1
  clear hA0 hval0
  refine (walk a0 cap0 cs0 a1 W w0 (bounds_i64 w1)).mono fun e W' ⟨he, bel⟩ => ?_
  subst he
  exact ⟨_, rfl, _, _, _, [], _, [], hW', trodAll_mk1 (shut_bool Try.underlying4 _), (trodAll_cons_mk (Below.trod laidOut (by kernel_rfl) (of_decide_eq_true (by kernel_rfl)) k0 bel lt0) (trodAll_cons_mk (shut_int Try.underlying3 w1) trodAll_mk0)), rfl, bel.frame _, fun h => by cases h⟩

theorem over : Rows.storeBackRow.holds Try.pinned (OpenSpec.ofChange Rows.storeBackSpec) :=
  OpenClaim.holds_of_wide 4 Try.f4 rfl rfl rfl rfl rfl rfl rfl ⟨rfl, rfl, rfl, rfl, rfl⟩ rfl rfl rfl rfl rfl (by kernel_rfl) Try.func4 (by kernel_rfl)
    (of_decide_eq_true (by kernel_rfl)) (by unfold Func.isWrapper; first | (rw [if_pos (by decide +kernel)]; kernel_rfl) | (rw [if_neg (by decide +kernel)]; exact ⟨rfl, rfl⟩))
    (fun os started H enc _ => lifted os started H enc)

theorem proved : Rows.StoreBackSaid := over
#print axioms proved
end Go.Proofs.Ythpajdhcgdllmaa.storeBack
