/- The laws' helpers for maps: two rows of numbers alike, whether one is a block, Keep of a map that may not be. -/
import Derived.Test.YtdjnkibnnjobpaaBdMb
namespace Go.Proofs.Ytdjnkibnnjobpaa
open Go.RowKit Go.Maps Go.ChangeMaps

set_option maxHeartbeats 2000000 in
theorem same_ints (a1 a2 : Option Addr) (n c1 c2 : Nat) (f g : Nat → Int) (w : World) (h1 : IntsAt w a1 n f) (h2 : IntsAt w a2 n g) (hn : n ≤ maxLen) (hfg : ∀ i, i < n → f i = g i) :
    Calls Try.prog 13 #[.slice a1 n c1, .slice a2 n c2] w fun e w' => e = .returned (.bool true) ∧ Below w.heap.size w w' := by
  have hn' : n ≤ 9223372036854775807 := by unfold maxLen at hn; omega
  have H1 : Hid (IntsAt w a1 n f) := h1
  have H2 : Hid (IntsAt w a2 n g) := h2
  have HFG : Hid (∀ i, i < n → f i = g i) := hfg
  clear h1 h2 hfg
  go_enter Try.func13, Try.ntmps13
  go_wp2
  go_loopw [5] (fun i wr => ∃ k : Nat, k ≤ n ∧ i = .int .i64 k ∧ Hid (Below w.heap.size w wr)) (fun i _ => n - (intOf i).toNat)
  case atStart => exact ⟨0, Nat.zero_le _, rfl, Below.refl _ _⟩
  case round =>
    obtain ⟨k, hk, rfl, HB⟩ := hrel
    by_cases hlt : k < n
    · obtain ⟨b, o, rfl, hbl, hc⟩ := H1.out.resolve_left (by omega)
      obtain ⟨b', o', rfl, hbl', hc'⟩ := H2.out.resolve_left (by omega)
      have x1 : wr.cell? ⟨b, o + k, none⟩ = some (.int .i64 (f k)) := (World.cell?_of_block (a := ⟨b, o + k, none⟩) (HB.out.block b hbl)).trans (hc k hlt)
      have x2 : wr.cell? ⟨b', o' + k, none⟩ = some (.int .i64 (f k)) := by
        rw [HFG.out k hlt]
        exact (World.cell?_of_block (a := ⟨b', o' + k, none⟩) (HB.out.block b' hbl')).trans (hc' k hlt)
      have hb : (k : Int) < (n : Int) := by omega
      obtain ⟨Z, hZ⟩ : ∃ Z, f k = Z := ⟨_, rfl⟩
      rw [hZ] at x1 x2
      have hzz : (Z != Z) = false := by simp
      have HB2 : Hid (Below w.heap.size w wr.drew) := HB.out.drew
      clear hc hc' hZ hbl hbl'
      go_wp2
      go_region_held3 (fun v' => v'.cell? ⟨b, o + k, none⟩ = some (.int .i64 Z) ∧ v'.cell? ⟨b', o' + k, none⟩ = some (.int .i64 Z)) (first | go_keep | fail "KEEP") (fail)
      all_goals
        go_wp2
        go_roundw
        case rel => exact ⟨k + 1, by omega, by go_num, HB2⟩
        case measure => simp [intOf]; omega
    · go_wp2
      go_ret
      exact ⟨rfl, HB.out⟩
/-- Is one of these a block? -/
def anyB (f : Nat → Int) (n : Nat) : Bool := decide (∃ i, i < n ∧ 0 ≤ f i)
set_option maxHeartbeats 2000000 in
theorem some_any (a : Option Addr) (n c : Nat) (f : Nat → Int) (w : World) (h : IntsAt w a n f) (hn : n ≤ maxLen) :
    Calls Try.prog 16 #[.slice a n c] w fun e w' => e = .returned (.bool (anyB f n)) ∧ Below w.heap.size w w' := by
  have hn' : n ≤ 9223372036854775807 := by unfold maxLen at hn; omega
  have HI : Hid (IntsAt w a n f) := h
  clear h
  obtain ⟨B, hB⟩ : ∃ B, anyB f n = B := ⟨_, rfl⟩
  have HBB : Hid (B = true ↔ ∃ i, i < n ∧ 0 ≤ f i) := by
    show _ ↔ _
    rw [← hB]
    unfold anyB
    rw [decide_eq_true_iff]
  rw [hB]
  clear hB
  go_enter Try.func16, Try.ntmps16
  go_wp2
  go_loopw [3] (fun i wr => ∃ k : Nat, k ≤ n ∧ i = .int .i64 k ∧ Hid (∀ j, j < k → f j < 0) ∧ Hid (Below w.heap.size w wr)) (fun i _ => n - (intOf i).toNat)
  case atStart => exact ⟨0, Nat.zero_le _, rfl, fun j hj => by omega, Below.refl _ _⟩
  case round =>
    obtain ⟨k, hk, rfl, HL, HB⟩ := hrel
    by_cases hlt : k < n
    · obtain ⟨b, o, rfl, hbl, hc⟩ := HI.out.resolve_left (by omega)
      have x1 : wr.cell? ⟨b, o + k, none⟩ = some (.int .i64 (f k)) := (World.cell?_of_block (a := ⟨b, o + k, none⟩) (HB.out.block b hbl)).trans (hc k hlt)
      have hb : (k : Int) < (n : Int) := by omega
      have HT : Hid (0 ≤ f k → B = true) := fun h0 => HBB.out.2 ⟨k, hlt, h0⟩
      have HL2 : Hid (f k < 0 → ∀ j, j < k + 1 → f j < 0) := fun h0 j hj => by
        by_cases e : j = k
        · subst e; exact h0
        · exact HL.out j (by omega)
      obtain ⟨Z, hZ⟩ : ∃ Z, f k = Z := ⟨_, rfl⟩
      rw [hZ] at x1 HT HL2
      clear hc hZ hbl
      by_cases hz : 0 ≤ Z
      · have hBt := HT.out hz
        subst hBt
        go_wp2
        go_ret
        exact ⟨rfl, HB.out⟩
      · have hz2 : Z < 0 := by omega
        have HL3 : Hid (∀ j, j < k + 1 → f j < 0) := HL2.out hz2
        go_wp2
        go_roundw
        case rel => exact ⟨k + 1, by omega, by go_num, HL3, HB⟩
        case measure => simp [intOf]; omega
    · obtain rfl : k = n := by omega
      have hBf : B = false := by
        rw [Bool.eq_false_iff]
        intro hb
        obtain ⟨i, hi, h0⟩ := HBB.out.1 hb
        have := HL.out i hi
        omega
      subst hBf
      go_wp2
      go_ret
      exact ⟨rfl, HB.out⟩
set_option maxHeartbeats 2000000 in
set_option maxRecDepth 100000 in
theorem keep_bad (V : VLay) (S : Vw) (N : Nat) (L : Lay) (M : Mem) (node k l s v d0 d1 d2 d3 d4 m : Int) (a : Option Addr) (n c : Nat) (f : Nat → Int) (w : World) (h : On w V S N L M) (n0 : 0 ≤ node) (n1 : node < 24) (hI : IntsAt w a n f) (hn : n ≤ maxLen) (hf : ∀ i, i < n → -9223372036854775808 ≤ f i ∧ f i ≤ 9223372036854775807) (hm : mayB f n = false) :
    Calls Try.prog 15 #[.pointer (some ⟨V.vb, 0, none⟩), .int .i64 node, .agg #[.int .i64 k, .int .i64 l, .int .i64 s, .int .u64 v, .int .i64 d0, .int .i64 d1, .int .i64 d2, .int .i64 d3, .int .i64 d4, .int .i64 m], .slice a n c] w fun e w' => e = .returned (.tuple #[.agg #[.int .i64 0, .int .i64 0, .int .i64 0, .int .u64 0, .int .i64 0, .int .i64 0, .int .i64 0, .int .i64 0, .int .i64 0, .int .i64 0], .int .i64 1]) ∧ Below w.heap.size w w' := by
  have HMB : Hid (∀ w1, Below w.heap.size w w1 → Calls Try.prog 34 #[.slice a n c] w1 fun e w' => e = .returned (.bool false) ∧ w' = w1) := fun w1 hb => by
    have h := mayBe_any a n c f w1 (hI.later (Nat.le_refl _) hb) (by unfold maxLen at hn; omega) hf
    rw [hm] at h
    exact h
  have HR : Hid (∀ w1, Below w.heap.size w w1 → Calls Try.prog 33 #[.pointer (some ⟨V.vb, 0, none⟩), .int .i64 node] w1 fun e w' => e = .returned (.bool false) ∧ Below w1.heap.size w1 w') := fun w1 hb => refused_no V S N L M node w1 (h.later hb) n0 n1
  clear h hI hf hm
  go_enter Try.func15, Try.ntmps15
  go_wp2_with fail
  obtain ⟨X, hX, HXS, HXB, HC, HZ⟩ := two_cards w k l s v d0 d1 d2 d3 d4 m
  rw [hX]
  clear hX
  refine Calls.mono (HR.out _ HXB.out) ?_
  rintro e w1 ⟨rfl, hb1⟩
  have HB1 : Hid (Below w.heap.size w w1) := HXB.out.trans (hb1.mono (by have := HXS.out; omega))
  have HZ1 : Hid (CardAt w1 (w.heap.size + 1) 0 0 0 0 0 0 0 0 0 0) := HZ.out.later hb1
  clear hb1
  go_wp2_with fail
  refine Calls.mono (HMB.out _ HB1.out) ?_
  rintro e w' ⟨rfl, hw⟩
  obtain rfl := hw.symm
  obtain ⟨z0, z1, z2, z3, z4, z5, z6, z7, z8, z9⟩ := HZ1.out.ten
  have zf := HZ1.out.frozen
  go_wp2
  refine bodyPost_ret (v := .tuple #[.agg #[.int .i64 0, .int .i64 0, .int .i64 0, .int .u64 0, .int .i64 0, .int .i64 0, .int .i64 0, .int .i64 0, .int .i64 0, .int .i64 0], .int .i64 1]) (by simp [results, Try.results15, go_sem, z0, z1, z2, z3, z4, z5, z6, z7, z8, z9]) rfl ⟨rfl, ?_⟩
  exact ((((((((((HB1.out.setCell (p := ⟨w.heap.size + 1, 0, none⟩) (by simp) _).setCell (p := ⟨w.heap.size + 1, 1, none⟩) (by simp) _).setCell (p := ⟨w.heap.size + 1, 2, none⟩) (by simp) _).setCell (p := ⟨w.heap.size + 1, 3, none⟩) (by simp) _).setCell (p := ⟨w.heap.size + 1, 4, none⟩) (by simp) _).setCell (p := ⟨w.heap.size + 1, 5, none⟩) (by simp) _).setCell (p := ⟨w.heap.size + 1, 6, none⟩) (by simp) _).setCell (p := ⟨w.heap.size + 1, 7, none⟩) (by simp) _).setCell (p := ⟨w.heap.size + 1, 8, none⟩) (by simp) _).setCell (p := ⟨w.heap.size + 1, 9, none⟩) (by simp) _)

end Go.Proofs.Ytdjnkibnnjobpaa
