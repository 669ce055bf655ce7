/- Contracts of Node and of Release. -/
import Derived.Test.YthpajdhcgdllmaaStoC
namespace Go.Proofs.Ythpajdhcgdllmaa
open Go.RowKit Go.Maps Go.ChangeMaps

theorem card_fz {w W v' : World} {cs : Array Value} {t : TypeId} (hW : w.alloc (.cells cs t) = W) (hb : Below W.heap.size W v') (i : Nat) : v'.frozen? ⟨w.heap.size, i, none⟩ = false := by
  have h1 : W.heap[w.heap.size]? = some (.cells cs t (0, 0)) := by rw [← hW]; exact heap_alloc_new _ _
  have h2 : v'.heap[w.heap.size]? = some (.cells cs t (0, 0)) := (hb.block _ (Array.getElem?_eq_some_iff.1 h1).1).trans h1
  exact frozen_of_row v' w.heap.size i _ _ h2
/-- Whether a number is free. -/
def freeN (S : Vw) (M : Mem) (k : Int) : Bool := decide (S.word M (8 + 8 * k) % 256 = 0) && !S.awayN k
theorem node_kind (kind : Int) (w : World) (h : ¬ (kind = 1 ∨ kind = 2 ∨ kind = 3)) (a : Option Addr) :
    Calls Try.prog 12 #[.pointer a, .int .i64 kind] w fun e w' => e = .returned (.tuple #[.int .i64 0, .int .i64 1]) ∧ Below w.heap.size w w' := by
  have HF : Hid _ := fresh_no kind 0 w h
  clear h
  go_enter Try.func12, Try.ntmps12
  go_wp2_with fail
  refine Calls.mono (Hid.out HF) ?_
  rintro e w1 ⟨rfl, hb⟩
  have HB1 : Hid (Below w.heap.size w w1) := hb
  clear hb
  go_wp2
  go_ret2
  exact ⟨rfl, HB1.out.alloc HB1.out.size _⟩

set_option maxHeartbeats 4000000 in
theorem node_full (V : VLay) (S : Vw) (N : Nat) (L : Lay) (M : Mem) (kind : Int) (w : World) (h : On w V S N L M) (hk : kind = 1 ∨ kind = 2 ∨ kind = 3) (hl : ∀ j : Nat, 2 ≤ j → j < 24 → freeN S M (j : Int) = false) :
    Calls Try.prog 12 #[.pointer (some ⟨V.vb, 0, none⟩), .int .i64 kind] w fun e w' => e = .returned (.tuple #[.int .i64 0, .int .i64 9]) ∧ Below w.heap.size w w' := by
  have HF : Hid _ := fresh_yes kind 0 w hk
  have HM : Hid (∀ w1, Below w.heap.size w w1 → Calls Try.prog 31 #[.pointer (some ⟨V.vb, 0, none⟩)] w1 fun e w' => e = .returned (.bool false) ∧ Below w1.heap.size w1 w') := fun w1 hb => miss_no V S N L M w1 (h.later hb)
  have HK : Hid (kind = 1 ∨ kind = 2 ∨ kind = 3) := hk
  have HC : Hid (∀ (k : Nat) w, k < 24 → Calls Try.prog 18 #[.int .i64 k] w fun e w' => e = .returned (.tuple #[.int .i64 (8 + 8 * (k : Int)), .int .i64 0]) ∧ w' = w) := fun k w h => card_at k w (by omega) (by omega)
  have HH : Hid (∀ (k : Nat) (b : Bool) w1, k < 24 → b = !decide (S.word M (8 + 8 * (k : Int)) % 256 = 0) → Below w.heap.size w w1 → Calls Try.prog 32 #[.pointer (some ⟨V.vb, 0, none⟩), .int .i64 (8 + 8 * (k : Int))] w1 fun e w' => e = .returned (.bool b) ∧ w' = w1) := fun k b w1 hk hb hbw =>
    hasFile_any V S N L M (8 + 8 * (k : Int)) b w1 (h.later hbw) (by omega) (by omega) hb
  have HA : Hid (∀ (k : Nat) w1, k < 24 → Below w.heap.size w w1 → Calls Try.prog 33 #[.pointer (some ⟨V.vb, 0, none⟩), .int .i64 k] w1 fun e w' => e = .returned (.bool (S.awayN k)) ∧ w' = w1) := fun k w1 hk hbw =>
    awayN_any V S N k w1 (h.later hbw).view (WalkArith.wf_i64 (by omega))
  have HL : Hid _ := hl
  clear h hl hk
  go_enter Try.func12, Try.ntmps12
  go_wp2_with fail
  refine Calls.mono (Hid.out HF) ?_
  rintro e w1 ⟨rfl, hb⟩
  have HB1 : Hid (Below w.heap.size w w1) := hb
  clear hb
  go_wp2_with fail
  obtain ⟨W, hW, HSZ, HE, HCELL⟩ := Cd.new_card w1 kind 1 0 0 (-1) (-1) (-1) (-1) (-1) (-1)
  have HFZ : Hid (∀ v', Below W.heap.size W v' → v'.frozen? ⟨w1.heap.size, 3, none⟩ = false) := fun v' hb => card_fz hW hb 3
  rw [hW]
  clear hW
  have HBW : Hid (Below w.heap.size w W) := HB1.out.trans ((HE.out W (Below.refl _ _)).mono HB1.out.size)
  refine Calls.mono (HM.out W HBW.out) ?_
  rintro e w2 ⟨rfl, hb⟩
  have HB2 : Hid (Below W.heap.size W w2) := hb
  clear hb
  go_wp2
  go_loopw [8, 9, 10] (fun i _ _ wr => ∃ k : Nat, 2 ≤ k ∧ k ≤ 24 ∧ i = .int .i64 k ∧ Hid (Below W.heap.size W wr)) (fun i _ _ _ => 24 - (intOf i).toNat)
  case atStart => exact ⟨2, by omega, by omega, rfl, HB2.out⟩
  case round =>
    obtain ⟨k, hk2, hk, rfl, HB⟩ := hrel
    have HBw : Hid (Below w.heap.size w wr) := HBW.out.trans (HB.out.mono HBW.out.size)
    by_cases hlt : k < 24
    · skip
      have hb : (k : Int) < 24 := by omega
      have hfr := HL.out k hk2 hlt
      unfold freeN at hfr
      by_cases hz : S.word M (8 + 8 * (k : Int)) % 256 = 0
      · have ha : S.awayN k = true := by rw [decide_eq_true hz] at hfr; simpa using hfr
        have HHk : Hid _ := HH.out k false wr (by omega) (by rw [decide_eq_true hz]; rfl) HBw.out
        have HAk : Hid (Calls Try.prog 33 #[.pointer (some ⟨V.vb, 0, none⟩), .int .i64 k] wr fun e w' => e = .returned (.bool true) ∧ w' = wr) := by
          have := HA.out k wr (by omega) HBw.out
          rw [ha] at this
          exact this
        clear hz hfr ha
        go_wp2_with (first
          | (go_at_call 18; refine Calls.mono (HC.out k _ (by omega)) ?_; rintro e w' ⟨rfl, hw⟩; obtain rfl := hw.symm)
          | (go_at_call 32; refine Calls.mono (Hid.out HHk) ?_; rintro e w' ⟨rfl, hw⟩; obtain rfl := hw.symm)
          | (go_at_call 33; refine Calls.mono (Hid.out HAk) ?_; rintro e w' ⟨rfl, hw⟩; obtain rfl := hw.symm)
          | go_in)
        go_roundw
        case rel => exact ⟨k + 1, by omega, by omega, by go_num, HB.out⟩
        case measure => simp [intOf]; omega
      · have HHk : Hid _ := HH.out k true wr (by omega) (by rw [decide_eq_false hz]; rfl) HBw.out
        clear hz hfr
        go_wp2_with (first
          | (go_at_call 18; refine Calls.mono (HC.out k _ (by omega)) ?_; rintro e w' ⟨rfl, hw⟩; obtain rfl := hw.symm)
          | (go_at_call 32; refine Calls.mono (Hid.out HHk) ?_; rintro e w' ⟨rfl, hw⟩; obtain rfl := hw.symm)
          | go_in)
        go_roundw
        case rel => exact ⟨k + 1, by omega, by omega, by go_num, HB.out⟩
        case measure => simp [intOf]; omega
    · obtain rfl : k = 24 := by omega
      go_wp2
      go_ret2
      exact ⟨rfl, HBw.out⟩

set_option maxHeartbeats 4000000 in
theorem node_yes (V : VLay) (S : Vw) (N : Nat) (L : Lay) (M : Mem) (kind : Int) (w : World) (h : On w V S N L M) (hk : kind = 1 ∨ kind = 2 ∨ kind = 3) (q : Nat) (v : Int) (hN : N < 800000000) (q2 : 2 ≤ q) (hq : q < 24) (hf : freeN S M (q : Int) = true) (hl : ∀ j : Nat, 2 ≤ j → j < q → freeN S M (j : Int) = false) (hv : IntKind.u64.wrap (S.word M (8 + 8 * (q : Int) + 1) + 1) = v) :
    Calls Try.prog 12 #[.pointer (some ⟨V.vb, 0, none⟩), .int .i64 kind] w fun e w' => e = .returned (.tuple #[.int .i64 q, .int .i64 0]) ∧ On w' V (S.setC q kind 1 0 v (-1) (-1) (-1) (-1) (-1) (-1)) (N + 10) L M ∧ Only V.blocks w w' := by
  have HF : Hid _ := fresh_yes kind 0 w hk
  have HM : Hid (∀ w1, Below w.heap.size w w1 → Calls Try.prog 31 #[.pointer (some ⟨V.vb, 0, none⟩)] w1 fun e w' => e = .returned (.bool false) ∧ Below w1.heap.size w1 w') := fun w1 hb => miss_no V S N L M w1 (h.later hb)
  have HK : Hid (kind = 1 ∨ kind = 2 ∨ kind = 3) := hk
  have HC : Hid (∀ (k : Nat) w, k < 24 → Calls Try.prog 18 #[.int .i64 k] w fun e w' => e = .returned (.tuple #[.int .i64 (8 + 8 * (k : Int)), .int .i64 0]) ∧ w' = w) := fun k w h => card_at k w (by omega) (by omega)
  have HH : Hid (∀ (k : Nat) (b : Bool) w1, k < 24 → b = !decide (S.word M (8 + 8 * (k : Int)) % 256 = 0) → Below w.heap.size w w1 → Calls Try.prog 32 #[.pointer (some ⟨V.vb, 0, none⟩), .int .i64 (8 + 8 * (k : Int))] w1 fun e w' => e = .returned (.bool b) ∧ w' = w1) := fun k b w1 hk hb hbw =>
    hasFile_any V S N L M (8 + 8 * (k : Int)) b w1 (h.later hbw) (by omega) (by omega) hb
  have HA : Hid (∀ (k : Nat) w1, k < 24 → Below w.heap.size w w1 → Calls Try.prog 33 #[.pointer (some ⟨V.vb, 0, none⟩), .int .i64 k] w1 fun e w' => e = .returned (.bool (S.awayN k)) ∧ w' = w1) := fun k w1 hk hbw =>
    awayN_any V S N k w1 (h.later hbw).view (WalkArith.wf_i64 (by omega))
  obtain ⟨x, hx⟩ : ∃ x, S.word M (8 + 8 * (q : Int) + 1) = x := ⟨_, rfl⟩
  rw [hx] at hv
  have HR : Hid (∀ w1, Below w.heap.size w w1 → Calls Try.prog 34 #[.pointer (some ⟨V.vb, 0, none⟩), .int .i64 (8 + 8 * (q : Int) + 1)] w1 fun e w' => e = .returned (.int .u64 x) ∧ w' = w1) := fun w1 hb => by
    rw [← hx]; exact vread_any V S N L M _ w1 (h.later hb).view (h.later hb).mem h.mb (WalkArith.wf_i64 (by omega))
  have hvw : (Lit.int .u64 v).wf = true := by
    rw [← hv]; exact WalkArith.wf_u64 (by rw [IntKind.wrap_u64]; omega)
  have HS : Hid (∀ w1, Below w.heap.size w w1 → Calls Try.prog 35 #[.pointer (some ⟨V.vb, 0, none⟩), .int .i64 q, .agg #[.int .i64 kind, .int .i64 1, .int .i64 0, .int .u64 v, .int .i64 (-1), .int .i64 (-1), .int .i64 (-1), .int .i64 (-1), .int .i64 (-1), .int .i64 (-1)]] w1 fun e w' => e = .returned (.int .i64 0) ∧ On w' V (S.setC q kind 1 0 v (-1) (-1) (-1) (-1) (-1) (-1)) (N + 10) L M ∧ Only V.blocks w1 w') := fun w1 hb =>
    vsetC V S N L M q kind 1 0 v (-1) (-1) (-1) (-1) (-1) (-1) w1 (h.later hb) hN (by omega) (by omega) (rt_fresh hk) hvw
  have hvc : (v : Int) = v := rfl
  have HL : Hid _ := hl
  have HFQ : Hid _ := hf
  clear hf
  have HX : Hid _ := hx
  clear hx
  clear h hl hk
  go_enter Try.func12, Try.ntmps12
  go_wp2_with fail
  refine Calls.mono (Hid.out HF) ?_
  rintro e w1 ⟨rfl, hb⟩
  have HB1 : Hid (Below w.heap.size w w1) := hb
  clear hb
  go_wp2_with fail
  obtain ⟨W, hW, HSZ, HE, HCELL⟩ := Cd.new_card w1 kind 1 0 0 (-1) (-1) (-1) (-1) (-1) (-1)
  have HFZ : Hid (∀ v', Below W.heap.size W v' → v'.frozen? ⟨w1.heap.size, 3, none⟩ = false) := fun v' hb => card_fz hW hb 3
  rw [hW]
  clear hW
  have HBW : Hid (Below w.heap.size w W) := HB1.out.trans ((HE.out W (Below.refl _ _)).mono HB1.out.size)
  refine Calls.mono (HM.out W HBW.out) ?_
  rintro e w2 ⟨rfl, hb⟩
  have HB2 : Hid (Below W.heap.size W w2) := hb
  clear hb
  go_wp2
  go_loopw [8, 9, 10] (fun i _ _ wr => ∃ k : Nat, 2 ≤ k ∧ k ≤ q ∧ i = .int .i64 k ∧ Hid (Below W.heap.size W wr)) (fun i _ _ _ => 24 - (intOf i).toNat)
  case atStart => exact ⟨2, by omega, by omega, rfl, HB2.out⟩
  case round =>
    obtain ⟨k, hk2, hk, rfl, HB⟩ := hrel
    have HBw : Hid (Below w.heap.size w wr) := HBW.out.trans (HB.out.mono HBW.out.size)
    by_cases hlt : k < q
    · skip
      have hb : (k : Int) < 24 := by omega
      have hfr := HL.out k hk2 hlt
      unfold freeN at hfr
      by_cases hz : S.word M (8 + 8 * (k : Int)) % 256 = 0
      · have ha : S.awayN k = true := by rw [decide_eq_true hz] at hfr; simpa using hfr
        have HHk : Hid _ := HH.out k false wr (by omega) (by rw [decide_eq_true hz]; rfl) HBw.out
        have HAk : Hid (Calls Try.prog 33 #[.pointer (some ⟨V.vb, 0, none⟩), .int .i64 k] wr fun e w' => e = .returned (.bool true) ∧ w' = wr) := by
          have := HA.out k wr (by omega) HBw.out
          rw [ha] at this
          exact this
        clear hz hfr ha
        go_wp2_with (first
          | (go_at_call 18; refine Calls.mono (HC.out k _ (by omega)) ?_; rintro e w' ⟨rfl, hw⟩; obtain rfl := hw.symm)
          | (go_at_call 32; refine Calls.mono (Hid.out HHk) ?_; rintro e w' ⟨rfl, hw⟩; obtain rfl := hw.symm)
          | (go_at_call 33; refine Calls.mono (Hid.out HAk) ?_; rintro e w' ⟨rfl, hw⟩; obtain rfl := hw.symm)
          | go_in)
        go_roundw
        case rel => exact ⟨k + 1, by omega, by omega, by go_num, HB.out⟩
        case measure => simp [intOf]; omega
      · have HHk : Hid _ := HH.out k true wr (by omega) (by rw [decide_eq_false hz]; rfl) HBw.out
        clear hz hfr
        go_wp2_with (first
          | (go_at_call 18; refine Calls.mono (HC.out k _ (by omega)) ?_; rintro e w' ⟨rfl, hw⟩; obtain rfl := hw.symm)
          | (go_at_call 32; refine Calls.mono (Hid.out HHk) ?_; rintro e w' ⟨rfl, hw⟩; obtain rfl := hw.symm)
          | go_in)
        go_roundw
        case rel => exact ⟨k + 1, by omega, by omega, by go_num, HB.out⟩
        case measure => simp [intOf]; omega
    · obtain rfl : k = q := by omega
      have hb : (k : Int) < 24 := by omega
      have hfr := HFQ.out
      unfold freeN at hfr
      have hz : S.word M (8 + 8 * (k : Int)) % 256 = 0 := by
        by_cases e : S.word M (8 + 8 * (k : Int)) % 256 = 0
        · exact e
        · rw [decide_eq_false e] at hfr; simp at hfr
      have ha : S.awayN k = false := by rw [decide_eq_true hz] at hfr; simpa using hfr
      have HHk : Hid _ := HH.out k false wr (by omega) (by rw [decide_eq_true hz]; rfl) HBw.out
      have HAk : Hid (Calls Try.prog 33 #[.pointer (some ⟨V.vb, 0, none⟩), .int .i64 k] wr fun e w' => e = .returned (.bool false) ∧ w' = wr) := by
        have := HA.out k wr (by omega) HBw.out
        rw [ha] at this
        exact this
      have HRk : Hid _ := HR.out wr HBw.out
      clear hz hfr ha
      go_wp2_with (first
        | (go_at_call 18; refine Calls.mono (HC.out k _ (by omega)) ?_; rintro e w' ⟨rfl, hw⟩; obtain rfl := hw.symm)
        | (go_at_call 32; refine Calls.mono (Hid.out HHk) ?_; rintro e w' ⟨rfl, hw⟩; obtain rfl := hw.symm)
        | (go_at_call 33; refine Calls.mono (Hid.out HAk) ?_; rintro e w' ⟨rfl, hw⟩; obtain rfl := hw.symm)
        | (go_at_call 34; refine Calls.mono (Hid.out HRk) ?_; rintro e w' ⟨rfl, hw⟩; obtain rfl := hw.symm; obtain ⟨c0, c1, c2, c3, c4, c5, c6, c7, c8, c9⟩ := HCELL.out _ HB.out; have fz := HFZ.out _ HB.out)
        | (go_at_call 35; refine Calls.mono (HS.out _ (HBw.out.setCell (p := ⟨w1.heap.size, 3, none⟩) HB1.out.size _)) ?_; rintro e w5 ⟨rfl, ho, hx⟩
           have HO5 : Hid (On w5 V (S.setC k kind 1 0 v (-1) (-1) (-1) (-1) (-1) (-1)) (N + 10) L M) := ho
           have HX5 : Hid (Only V.blocks w w5) := (Only.of_below (HBw.out.setCell (p := ⟨w1.heap.size, 3, none⟩) HB1.out.size _)).trans hx
           clear ho hx fz c0 c1 c2 c3 c4 c5 c6 c7 c8 c9)
        | go_in)
      go_ret2
      exact ⟨rfl, HO5.out, HX5.out⟩

set_option maxHeartbeats 2000000 in
theorem release_yes (V : VLay) (S : Vw) (N : Nat) (L : Lay) (M : Mem) (node k l s v v' d0 d1 d2 d3 d4 m : Int) (w : World) (h : On w V S N L M) (hN : N < 700000000) (h0 : 0 ≤ node) (h1 : node < 24) (hr : Cd.Rt k l s d0 d1 d2 d3 d4 m) (hk : k ≠ 0) (hc : S.cardAt M node k l s v d0 d1 d2 d3 d4 m) (hv : IntKind.u64.wrap (v + 1) = v') :
    Calls Try.prog 20 #[.pointer (some ⟨V.vb, 0, none⟩), .int .i64 node] w fun e w' => e = .returned (.int .i64 0) ∧ On w' V ((({ S with seen := addB S.seen node } : Vw)).setC node 0 0 0 v' (-1) (-1) (-1) (-1) (-1) (-1)) (N + 11) L M ∧ Only V.blocks w w' := by
  have HC : Hid _ := vcard_back V S N L M node k l s v d0 d1 d2 d3 d4 m w h (by omega) h0 h1 hr hc
  have hvw : (Lit.int .u64 v').wf = true := by
    rw [← hv]; exact WalkArith.wf_u64 (by rw [IntKind.wrap_u64]; omega)
  have HS : Hid (∀ w1, On w1 V { S with seen := addB S.seen node } (N + 1) L M → Calls Try.prog 35 #[.pointer (some ⟨V.vb, 0, none⟩), .int .i64 node, .agg #[.int .i64 0, .int .i64 0, .int .i64 0, .int .u64 v', .int .i64 (-1), .int .i64 (-1), .int .i64 (-1), .int .i64 (-1), .int .i64 (-1), .int .i64 (-1)]] w1 fun e w' => e = .returned (.int .i64 0) ∧ On w' V ((({ S with seen := addB S.seen node } : Vw)).setC node 0 0 0 v' (-1) (-1) (-1) (-1) (-1) (-1)) (N + 11) L M ∧ Only V.blocks w1 w') := fun w1 hb =>
    vsetC V _ (N + 1) L M node 0 0 0 v' (-1) (-1) (-1) (-1) (-1) (-1) w1 hb (by omega) h0 h1 rt_none hvw
  have hk0 : (k == 0) = false := by simpa using hk
  clear h hr hc hk
  go_enter Try.func20, Try.ntmps20
  go_wp2_with fail
  refine Calls.mono (Hid.out HC) ?_
  rintro e w1 ⟨rfl, ho, hx⟩
  have HO1 : Hid (On w1 V { S with seen := addB S.seen node } (N + 1) L M) := ho
  have HX1 : Hid (Only V.blocks w w1) := hx
  clear ho hx
  obtain ⟨W, hW, HSZ, HE, HCELL⟩ := Cd.new_card w1 k l s v d0 d1 d2 d3 d4 m
  have HBW : Hid (Below w1.heap.size w1 W) := HE.out W (Below.refl _ _)
  obtain ⟨c0, c1, c2, c3, c4, c5, c6, c7, c8, c9⟩ := HCELL.out W (Below.refl _ _)
  have HW : Hid (w1.alloc (.cells #[.int .i64 k, .int .i64 l, .int .i64 s, .int .u64 v, .int .i64 d0, .int .i64 d1, .int .i64 d2, .int .i64 d3, .int .i64 d4, .int .i64 m] 47) = W) := hW
  rw [← hW] at c0 c3
  clear hW c1 c2 c4 c5 c6 c7 c8 c9
  go_wp2_with (first
    | (go_at_call 42; refine (Cd.none_any v' _).mono ?_; rintro e w2 ⟨rfl, hb⟩
       have HB2 : Hid (Below w1.heap.size w1 w2) := (by have := HBW.out; rw [← HW.out] at this; exact this.trans (hb.mono this.size)); clear hb c0 c3)
    | (go_at_call 35; refine Calls.mono (HS.out _ (HO1.out.later HB2.out)) ?_; rintro e w3 ⟨rfl, ho, hx⟩
       have HO3 : Hid (On w3 V ((({ S with seen := addB S.seen node } : Vw)).setC node 0 0 0 v' (-1) (-1) (-1) (-1) (-1) (-1)) (N + 11) L M) := ho
       have HX3 : Hid (Only V.blocks w w3) := (HX1.out.trans (Only.of_below HB2.out)).trans hx
       clear ho hx)
    | go_in)
  go_ret
  exact ⟨rfl, HO3.out, HX3.out⟩
set_option maxHeartbeats 2000000 in
theorem release_none (V : VLay) (S : Vw) (N : Nat) (L : Lay) (M : Mem) (node v : Int) (w : World) (h : On w V S N L M) (hN : N < 700000000) (h0 : 0 ≤ node) (h1 : node < 24) (hc : S.cardAt M node 0 0 0 v (-1) (-1) (-1) (-1) (-1) (-1)) :
    Calls Try.prog 20 #[.pointer (some ⟨V.vb, 0, none⟩), .int .i64 node] w fun e w' => e = .returned (.int .i64 15) ∧ On w' V { S with seen := addB S.seen node } (N + 1) L M ∧ Only V.blocks w w' := by
  have HC : Hid _ := vcard_back V S N L M node 0 0 0 v (-1) (-1) (-1) (-1) (-1) (-1) w h (by omega) h0 h1 rt_none hc
  clear h hc
  go_enter Try.func20, Try.ntmps20
  go_wp2_with fail
  refine Calls.mono (Hid.out HC) ?_
  rintro e w1 ⟨rfl, ho, hx⟩
  have HO1 : Hid (On w1 V { S with seen := addB S.seen node } (N + 1) L M) := ho
  have HX1 : Hid (Only V.blocks w w1) := hx
  clear ho hx
  obtain ⟨W, hW, HSZ, HE, HCELL⟩ := Cd.new_card w1 0 0 0 v (-1) (-1) (-1) (-1) (-1) (-1)
  have HBW : Hid (Below w1.heap.size w1 W) := HE.out W (Below.refl _ _)
  obtain ⟨c0, c1, c2, c3, c4, c5, c6, c7, c8, c9⟩ := HCELL.out W (Below.refl _ _)
  rw [← hW] at c0 HBW
  clear hW c1 c2 c3 c4 c5 c6 c7 c8 c9
  go_wp2
  go_ret
  exact ⟨rfl, HO1.out.later HBW.out, HX1.out.trans (Only.of_below HBW.out)⟩

end Go.Proofs.Ythpajdhcgdllmaa
