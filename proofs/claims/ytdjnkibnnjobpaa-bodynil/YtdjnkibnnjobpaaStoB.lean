/- Contracts of Take; of a card that is a file's; the lowest number that is free. -/
import Derived.Test.YtdjnkibnnjobpaaStoA
namespace Go.Proofs.Ytdjnkibnnjobpaa
open Go.RowKit Go.Maps Go.ChangeMaps

set_option maxHeartbeats 1000000 in
theorem take_no (V : VLay) (S : Vw) (N : Nat) (L : Lay) (M : Mem) (node : Int) (w : World) (_h : On w V S N L M) (hn : node < 0 ∨ 24 ≤ node) :
    Calls Try.prog 49 #[.pointer (some ⟨V.vb, 0, none⟩), .int .i64 node] w fun e w' => e = .returned (.tuple #[.int .i64 0, .int .i64 1]) ∧ w' = w := by
  have HC : Hid (∀ w, Calls Try.prog 47 #[.int .i64 node] w fun e w' => e = .returned (.tuple #[.int .i64 0, .int .i64 1]) ∧ w' = w) := fun w => card_no node w hn
  clear hn
  go_enter Try.func49, Try.ntmps49
  go_wp2_with (first
    | (go_at_call 47; refine Calls.mono (HC.out _) ?_; rintro e w' ⟨rfl, hw⟩; obtain rfl := hw.symm)
    | go_in)
  go_ret2
  exact ⟨rfl, rfl⟩

set_option maxHeartbeats 2000000 in
theorem take_yes (V : VLay) (S : Vw) (N : Nat) (L : Lay) (M : Mem) (node : Int) (q : Nat) (w : World) (h : On w V S N L M) (hN : N < 800000000) (n0 : 0 ≤ node) (n1 : node < 24) (hq : q < 96) (hf : freshB S M (q : Int) = true) (hl : ∀ j : Nat, j < q → freshB S M (j : Int) = false) :
    Calls Try.prog 49 #[.pointer (some ⟨V.vb, 0, none⟩), .int .i64 node] w fun e w' => e = .returned (.tuple #[.int .i64 q, .int .i64 0]) ∧ On w' V (S.give q node) (N + 17) L M ∧ Only V.blocks w w' := by
  have HC : Hid (∀ w, Calls Try.prog 47 #[.int .i64 node] w fun e w' => e = .returned (.tuple #[.int .i64 (8 + 8 * node), .int .i64 0]) ∧ w' = w) := fun w => card_at node w n0 n1
  have HM : Hid _ := miss_no V S N L M w h
  have HG : Hid (∀ w1, Below w.heap.size w w1 → Calls Try.prog 63 #[.pointer (some ⟨V.vb, 0, none⟩), .int .i64 q, .int .i64 node] w1 fun e w' => e = .returned (.tuple #[]) ∧ On w' V (S.give q node) (N + 17) L M ∧ Only V.blocks w1 w') := fun w1 hb =>
    give_any V S N L M q node w1 (h.later hb) hN (by omega) (by omega) n0 n1
  have HF : Hid (∀ (k : Nat) w1, k ≤ q → Below w.heap.size w w1 → Calls Try.prog 42 #[.pointer (some ⟨V.vb, 0, none⟩), .int .i64 k] w1 fun e w' => e = .returned (.bool (decide (k = q))) ∧ w' = w1) := fun k w1 hk hb => by
    have e : decide (k = q) = freshB S M (k : Int) := by
      by_cases hkq : k = q
      · subst hkq; rw [hf]; simp
      · rw [hl k (by omega)]; simpa using hkq
    rw [e]; exact vfresh_yes V S N L M k w1 (h.later hb).view (h.later hb).mem h.mb (by omega) (by omega)
  clear h hf hl
  go_enter Try.func49, Try.ntmps49
  go_wp2_with (first
    | (go_at_call 47; refine Calls.mono (HC.out _) ?_; rintro e w' ⟨rfl, hw⟩; obtain rfl := hw.symm)
    | (go_at_call 62; refine Calls.mono (Hid.out HM) ?_; rintro e w1 ⟨rfl, hb⟩; have HB1 : Hid (Below w.heap.size w w1) := hb; clear hb)
    | go_in)
  go_loopw [8, 20] (fun _ i wr => ∃ k : Nat, k ≤ q ∧ i = .int .i64 k ∧ Hid (Below w.heap.size w wr)) (fun _ i _ => 96 - (intOf i).toNat)
  case atStart => exact ⟨0, by omega, rfl, HB1.out⟩
  case round =>
    obtain ⟨k, hk, rfl, HB⟩ := hrel
    have hb : (k : Int) < 96 := by omega
    by_cases hlt : k = q
    · subst hlt
      have HFk : Hid (Calls Try.prog 42 #[.pointer (some ⟨V.vb, 0, none⟩), .int .i64 k] wr fun e w' => e = .returned (.bool true) ∧ w' = wr) := by
        have := HF.out k wr hk HB.out
        rw [decide_eq_true rfl] at this
        exact this
      go_wp2_with fail
      refine Calls.mono (Hid.out HFk) ?_
      rintro e w' ⟨rfl, hw⟩
      obtain rfl := hw.symm
      go_wp2_with fail
      refine Calls.mono (HG.out _ HB.out) ?_
      rintro e w2 ⟨rfl, ho, hx⟩
      have H2 : Hid (On w2 V (S.give k node) (N + 17) L M) := ho
      have HO2 : Hid (Only V.blocks w w2) := (Only.of_below HB.out).trans hx
      clear ho hx
      go_wp2
      go_ret2
      exact ⟨rfl, H2.out, HO2.out⟩
    · have HFk : Hid (Calls Try.prog 42 #[.pointer (some ⟨V.vb, 0, none⟩), .int .i64 k] wr fun e w' => e = .returned (.bool false) ∧ w' = wr) := by
        have := HF.out k wr hk HB.out
        rw [decide_eq_false hlt] at this
        exact this
      go_wp2_with fail
      refine Calls.mono (Hid.out HFk) ?_
      rintro e w' ⟨rfl, hw⟩
      obtain rfl := hw.symm
      go_wp2
      go_roundw
      case rel => exact ⟨k + 1, by omega, by go_num, HB.out⟩
      case measure => simp [intOf]; omega

set_option maxHeartbeats 2000000 in
theorem take_full (V : VLay) (S : Vw) (N : Nat) (L : Lay) (M : Mem) (node : Int) (w : World) (h : On w V S N L M) (n0 : 0 ≤ node) (n1 : node < 24) (hl : ∀ j : Nat, j < 96 → freshB S M (j : Int) = false) :
    Calls Try.prog 49 #[.pointer (some ⟨V.vb, 0, none⟩), .int .i64 node] w fun e w' => e = .returned (.tuple #[.int .i64 0, .int .i64 9]) ∧ Below w.heap.size w w' := by
  have HC : Hid (∀ w, Calls Try.prog 47 #[.int .i64 node] w fun e w' => e = .returned (.tuple #[.int .i64 (8 + 8 * node), .int .i64 0]) ∧ w' = w) := fun w => card_at node w n0 n1
  have HM : Hid _ := miss_no V S N L M w h
  have HF : Hid (∀ (k : Nat) w1, k < 96 → Below w.heap.size w w1 → Calls Try.prog 42 #[.pointer (some ⟨V.vb, 0, none⟩), .int .i64 k] w1 fun e w' => e = .returned (.bool false) ∧ w' = w1) := fun k w1 hk hb => by
    rw [← hl k hk]; exact vfresh_yes V S N L M k w1 (h.later hb).view (h.later hb).mem h.mb (by omega) (by omega)
  clear h hl
  go_enter Try.func49, Try.ntmps49
  go_wp2_with (first
    | (go_at_call 47; refine Calls.mono (HC.out _) ?_; rintro e w' ⟨rfl, hw⟩; obtain rfl := hw.symm)
    | (go_at_call 62; refine Calls.mono (Hid.out HM) ?_; rintro e w1 ⟨rfl, hb⟩; have HB1 : Hid (Below w.heap.size w w1) := hb; clear hb)
    | go_in)
  go_loopw [8, 20] (fun _ i wr => ∃ k : Nat, k ≤ 96 ∧ i = .int .i64 k ∧ Hid (Below w.heap.size w wr)) (fun _ i _ => 96 - (intOf i).toNat)
  case atStart => exact ⟨0, by omega, rfl, HB1.out⟩
  case round =>
    obtain ⟨k, hk, rfl, HB⟩ := hrel
    by_cases hlt : k < 96
    · have hb : (k : Int) < 96 := by omega
      go_wp2_with fail
      refine Calls.mono (HF.out k _ hlt HB.out) ?_
      rintro e w' ⟨rfl, hw⟩
      obtain rfl := hw.symm
      go_wp2
      go_roundw
      case rel => exact ⟨k + 1, by omega, by go_num, HB.out⟩
      case measure => simp [intOf]; omega
    · obtain rfl : k = 96 := by omega
      go_wp2
      go_ret2
      exact ⟨rfl, HB.out⟩

/-- Whether the card from a place on is a file's. -/
theorem Cd.getI_low (x : Int) (h0 : 0 ≤ x) : Cd.getI x 0 8 = x % 256 := by
  have := Cd.getI_div x 0 8 h0
  simpa using this
end Go.Proofs.Ytdjnkibnnjobpaa
