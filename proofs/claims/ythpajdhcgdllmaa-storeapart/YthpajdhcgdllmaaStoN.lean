/- Contracts of the store's calls without a view. -/
import Derived.Test.YthpajdhcgdllmaaStoD
namespace Go.Proofs.Ythpajdhcgdllmaa
open Go.RowKit Go.Maps Go.ChangeMaps

theorem nvoid (w : World) : Calls Try.prog 28 #[.pointer none] w fun e w' => e = .returned (.bool true) ∧ w' = w := by
  go_enter Try.func28, Try.ntmps28
  go_wp2
  go_ret
  exact ⟨rfl, rfl⟩

theorem nblock (k : Int) (w : World) : Calls Try.prog 46 #[.pointer none, .int .i64 k] w fun e w' => e = .returned (.tuple #[.slice none 0 0, .int .i64 1]) ∧ w' = w := by
  by_cases h : 0 ≤ k ∧ k < 96
  · obtain ⟨h0, h1⟩ := h
    have HC : Hid _ := fun w => block_at k w h0 h1
    go_enter Try.func46, Try.ntmps46
    go_wp2_with (first
      | (go_at_call 57; refine Calls.mono (HC.out _) ?_; rintro e w' ⟨rfl, hw⟩; obtain rfl := hw.symm)
      | (go_at_call 28; refine (nvoid _).mono ?_; rintro e w' ⟨rfl, hw⟩; obtain rfl := hw.symm)
      | go_in)
    go_ret2
    exact ⟨rfl, rfl⟩
  · have HC : Hid _ := fun w => block_no k w (by omega)
    clear h
    go_enter Try.func46, Try.ntmps46
    go_wp2_with (first
      | (go_at_call 57; refine Calls.mono (HC.out _) ?_; rintro e w' ⟨rfl, hw⟩; obtain rfl := hw.symm)
      | (go_at_call 28; refine (nvoid _).mono ?_; rintro e w' ⟨rfl, hw⟩; obtain rfl := hw.symm)
      | go_in)
    go_ret2
    exact ⟨rfl, rfl⟩

theorem ncard (node : Int) (w : World) : Calls Try.prog 21 #[.pointer none, .int .i64 node] w fun e w' => e = .returned (.tuple #[.agg #[.int .i64 0, .int .i64 0, .int .i64 0, .int .u64 0, .int .i64 0, .int .i64 0, .int .i64 0, .int .i64 0, .int .i64 0, .int .i64 0], .int .i64 1]) ∧ Below w.heap.size w w' := by
  obtain ⟨p, q, HC⟩ : ∃ p q : Int, Hid (∀ w, Calls Try.prog 18 #[.int .i64 node] w fun e w' => e = .returned (.tuple #[.int .i64 p, .int .i64 q]) ∧ w' = w) := by
    by_cases h : 0 ≤ node ∧ node < 24
    · exact ⟨_, _, fun w => card_at node w h.1 h.2⟩
    · exact ⟨_, _, fun w => card_no node w (by omega)⟩
  go_enter Try.func21, Try.ntmps21
  go_wp2_with fail
  obtain ⟨X, hX, hZ, hB, hl⟩ := zero_new w
  rw [hX]
  clear hX
  refine Calls.mono (HC.out _) ?_
  rintro e w' ⟨rfl, hw⟩
  obtain rfl := hw.symm
  have fz := hZ.frozen
  obtain ⟨z0, z1, z2, z3, z4, z5, z6, z7, z8, z9⟩ := hZ.ten
  go_wp2_with (first
    | (go_at_call 28; refine (nvoid _).mono ?_; rintro e w' ⟨rfl, hw⟩; obtain rfl := hw.symm)
    | go_in)
  refine bodyPost_ret (v := .tuple #[.agg #[_, _, _, _, _, _, _, _, _, _], _]) (by simp [results, Try.results21, go_sem, z0, z1, z2, z3, z4, z5, z6, z7, z8, z9]) rfl ⟨rfl, ?_⟩
  exact (((((((((hB.setCell (p := ⟨w.heap.size, 0, none⟩) (Nat.le_refl _) _).setCell (p := ⟨w.heap.size, 1, none⟩) (Nat.le_refl _) _).setCell (p := ⟨w.heap.size, 2, none⟩) (Nat.le_refl _) _).setCell (p := ⟨w.heap.size, 3, none⟩) (Nat.le_refl _) _).setCell (p := ⟨w.heap.size, 4, none⟩) (Nat.le_refl _) _).setCell (p := ⟨w.heap.size, 5, none⟩) (Nat.le_refl _) _).setCell (p := ⟨w.heap.size, 6, none⟩) (Nat.le_refl _) _).setCell (p := ⟨w.heap.size, 7, none⟩) (Nat.le_refl _) _).setCell (p := ⟨w.heap.size, 8, none⟩) (Nat.le_refl _) _).setCell (p := ⟨w.heap.size, 9, none⟩) (Nat.le_refl _) _

theorem nfresh (k : Int) (w : World) : Calls Try.prog 36 #[.pointer none, .int .i64 k] w fun e w' => e = .returned (.bool false) ∧ w' = w := by
  by_cases h : 0 ≤ k ∧ k < 96
  · obtain ⟨h0, h1⟩ := h
    have HC : Hid _ := fun w => owner_at k w h0 h1
    go_enter Try.func36, Try.ntmps36
    go_wp2_with (first
      | (go_at_call 50; refine Calls.mono (HC.out _) ?_; rintro e w' ⟨rfl, hw⟩; obtain rfl := hw.symm)
      | (go_at_call 28; refine (nvoid _).mono ?_; rintro e w' ⟨rfl, hw⟩; obtain rfl := hw.symm)
      | go_in)
    go_ret
    exact ⟨rfl, rfl⟩
  · have HC : Hid _ := fun w => owner_no k w (by omega)
    clear h
    go_enter Try.func36, Try.ntmps36
    go_wp2_with (first
      | (go_at_call 50; refine Calls.mono (HC.out _) ?_; rintro e w' ⟨rfl, hw⟩; obtain rfl := hw.symm)
      | (go_at_call 28; refine (nvoid _).mono ?_; rintro e w' ⟨rfl, hw⟩; obtain rfl := hw.symm)
      | go_in)
    go_ret
    exact ⟨rfl, rfl⟩

theorem miss_yes (w : World) : Calls Try.prog 31 #[.pointer none] w fun e w' => e = .returned (.bool true) ∧ w' = w := by
  have HB : Hid _ := nblock 0 w
  go_enter Try.func31, Try.ntmps31
  go_wp2_with fail
  refine Calls.mono (Hid.out HB) ?_
  rintro e w' ⟨rfl, hw⟩
  obtain rfl := hw.symm
  go_wp2
  go_ret
  exact ⟨rfl, rfl⟩
theorem ownerAt_nil (k : Int) (w : World) : Calls Try.prog 38 #[.pointer none, .int .i64 k] w fun e w' => e = .returned (.tuple #[.int .i64 0, .int .i64 1]) ∧ w' = w := by
  have HB : Hid _ := miss_yes w
  go_enter Try.func38, Try.ntmps38
  go_wp2_with fail
  refine Calls.mono (Hid.out HB) ?_
  rintro e w' ⟨rfl, hw⟩
  obtain rfl := hw.symm
  go_wp2
  go_ret2
  exact ⟨rfl, rfl⟩
theorem sowner_nil (k : Int) (w : World) : Calls Try.prog 16 #[.pointer none, .int .i64 k] w fun e w' => e = .returned (.tuple #[.int .i64 0, .int .i64 1]) ∧ w' = w := by
  have HB : Hid _ := ownerAt_nil k w
  go_enter Try.func16, Try.ntmps16
  go_wp2_with fail
  refine Calls.mono (Hid.out HB) ?_
  rintro e w' ⟨rfl, hw⟩
  obtain rfl := hw.symm
  go_wp2
  go_ret2
  exact ⟨rfl, rfl⟩
theorem drop_nil (k : Int) (w : World) : Calls Try.prog 17 #[.pointer none, .int .i64 k] w fun e w' => e = .returned (.int .i64 1) ∧ w' = w := by
  have HB : Hid _ := ownerAt_nil k w
  go_enter Try.func17, Try.ntmps17
  go_wp2_with fail
  refine Calls.mono (Hid.out HB) ?_
  rintro e w' ⟨rfl, hw⟩
  obtain rfl := hw.symm
  go_wp2
  go_ret
  exact ⟨rfl, rfl⟩
theorem take_nil (node : Int) (w : World) : Calls Try.prog 13 #[.pointer none, .int .i64 node] w fun e w' => e = .returned (.tuple #[.int .i64 0, .int .i64 1]) ∧ w' = w := by
  have HB : Hid _ := miss_yes w
  by_cases h : 0 ≤ node ∧ node < 24
  · have HC : Hid (∀ w, Calls Try.prog 18 #[.int .i64 node] w fun e w' => e = .returned (.tuple #[.int .i64 (8 + 8 * node), .int .i64 0]) ∧ w' = w) := fun w => card_at node w h.1 h.2
    clear h
    go_enter Try.func13, Try.ntmps13
    go_wp2_with (first
      | (go_at_call 18; refine Calls.mono (HC.out _) ?_; rintro e w' ⟨rfl, hw⟩; obtain rfl := hw.symm)
      | (go_at_call 31; refine Calls.mono (Hid.out HB) ?_; rintro e w' ⟨rfl, hw⟩; obtain rfl := hw.symm)
      | go_in)
    go_ret2
    exact ⟨rfl, rfl⟩
  · have HC : Hid (∀ w, Calls Try.prog 18 #[.int .i64 node] w fun e w' => e = .returned (.tuple #[.int .i64 0, .int .i64 1]) ∧ w' = w) := fun w => card_no node w (by omega)
    clear h
    go_enter Try.func13, Try.ntmps13
    go_wp2_with (first
      | (go_at_call 18; refine Calls.mono (HC.out _) ?_; rintro e w' ⟨rfl, hw⟩; obtain rfl := hw.symm)
      | go_in)
    go_ret2
    exact ⟨rfl, rfl⟩
set_option maxHeartbeats 1000000 in
theorem node_nil (kind : Int) (w : World) : Calls Try.prog 12 #[.pointer none, .int .i64 kind] w fun e w' => e = .returned (.tuple #[.int .i64 0, .int .i64 1]) ∧ Below w.heap.size w w' := by
  by_cases h : kind = 1 ∨ kind = 2 ∨ kind = 3
  · have HF : Hid _ := fresh_yes kind 0 w h
    clear h
    go_enter Try.func12, Try.ntmps12
    go_wp2_with fail
    refine Calls.mono (Hid.out HF) ?_
    rintro e w1 ⟨rfl, hb⟩
    have HB1 : Hid (Below w.heap.size w w1) := hb
    clear hb
    go_wp2_with (first
      | (go_at_call 31; refine (miss_yes _).mono ?_; rintro e w' ⟨rfl, hw⟩; obtain rfl := hw.symm)
      | go_in)
    go_ret2
    exact ⟨rfl, HB1.out.alloc HB1.out.size _⟩
  · exact node_kind kind w h none
theorem release_nil (k : Int) (w : World) : Calls Try.prog 20 #[.pointer none, .int .i64 k] w fun e w' => e = .returned (.int .i64 1) ∧ Below w.heap.size w w' := by
  have HB : Hid _ := ncard k w
  go_enter Try.func20, Try.ntmps20
  go_wp2_with fail
  refine Calls.mono (Hid.out HB) ?_
  rintro e w1 ⟨rfl, hb⟩
  have HB1 : Hid (Below w.heap.size w w1) := hb
  clear hb
  go_wp2
  go_ret
  exact ⟨rfl, HB1.out.alloc HB1.out.size _⟩
theorem free_nil (w : World) : Calls Try.prog 15 #[.pointer none] w fun e w' => e = .returned (.int .i64 0) ∧ Below w.heap.size w w' := by
  go_enter Try.func15, Try.ntmps15
  go_wp2
  go_loopw [3, 4, 5] (fun c _ i wr => ∃ k : Nat, k ≤ 96 ∧ i = .int .i64 k ∧ c = .int .i64 0 ∧ Hid (Below w.heap.size w wr)) (fun _ _ i _ => 96 - (intOf i).toNat)
  case atStart => exact ⟨0, by omega, rfl, rfl, Below.refl _ _⟩
  case round =>
    obtain ⟨k, hk, rfl, rfl, HB⟩ := hrel
    by_cases hlt : k < 96
    · have hb : (k : Int) < 96 := by omega
      go_wp2_with fail
      refine (nfresh k _).mono ?_
      rintro e w' ⟨rfl, hw⟩
      obtain rfl := hw.symm
      go_wp2
      go_roundw
      case rel => exact ⟨k + 1, by omega, by go_num, rfl, HB.out⟩
      case measure => simp [intOf]; omega
    · obtain rfl : k = 96 := by omega
      go_wp2
      go_ret
      exact ⟨rfl, HB.out⟩

end Go.Proofs.Ythpajdhcgdllmaa
