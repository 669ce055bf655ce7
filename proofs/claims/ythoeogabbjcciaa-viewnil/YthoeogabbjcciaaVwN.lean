/- Contracts of the view's calls of nil; memory.New. -/
import Derived.Test.YthoeogabbjcciaaAg
namespace Go.Proofs.Ythoeogabbjcciaa
open Go.RowKit Go.Maps Go.ChangeMaps

theorem nvoid (w : World) : Calls Try.prog 29 #[.pointer none] w fun e w' => e = .returned (.bool true) ∧ w' = w := by
  go_enter Try.func29, Try.ntmps29
  go_wp2
  go_ret
  exact ⟨rfl, rfl⟩

theorem nread (k : Int) (w : World) : Calls Try.prog 12 #[.pointer none, .int .i64 k] w fun e w' => e = .returned (.int .u64 0) ∧ w' = w := by
  go_enter Try.func12, Try.ntmps12
  go_wp2_with (first
    | (go_at_call 29; refine (nvoid _).mono ?_; rintro e w' ⟨rfl, hw⟩; obtain rfl := hw.symm)
    | go_in)
  go_ret
  exact ⟨rfl, rfl⟩

theorem nwrite (k v : Int) (w : World) : Calls Try.prog 13 #[.pointer none, .int .i64 k, .int .u64 v] w fun e w' => e = .returned (.int .i64 1) ∧ w' = w := by
  go_enter Try.func13, Try.ntmps13
  go_wp2_with (first
    | (go_at_call 29; refine (nvoid _).mono ?_; rintro e w' ⟨rfl, hw⟩; obtain rfl := hw.symm)
    | go_in)
  go_ret
  exact ⟨rfl, rfl⟩

theorem navoid (a a' : Option Addr) (n c n' c' : Nat) (w : World) : Calls Try.prog 9 #[.pointer none, .slice a n c, .slice a' n' c'] w fun e w' => e = .returned (.tuple #[]) ∧ w' = w := by
  go_enter Try.func9, Try.ntmps9
  go_wp2_with (first
    | (go_at_call 29; refine (nvoid _).mono ?_; rintro e w' ⟨rfl, hw⟩; obtain rfl := hw.symm)
    | go_in)
  first | go_end0 | refine bodyPost_ret (results_none rfl _ _ _) rfl ?_
  exact ⟨rfl, rfl⟩

theorem nreset (w : World) : Calls Try.prog 10 #[.pointer none] w fun e w' => e = .returned (.tuple #[]) ∧ w' = w := by
  go_enter Try.func10, Try.ntmps10
  go_wp2_with (first
    | (go_at_call 29; refine (nvoid _).mono ?_; rintro e w' ⟨rfl, hw⟩; obtain rfl := hw.symm)
    | go_in)
  first | go_end0 | refine bodyPost_ret (results_none rfl _ _ _) rfl ?_
  exact ⟨rfl, rfl⟩

theorem nchanges (w : World) : Calls Try.prog 16 #[.pointer none] w fun e w' => e = .returned (.slice none 0 0) ∧ w' = w := by
  go_enter Try.func16, Try.ntmps16
  go_wp2_with (first
    | (go_at_call 29; refine (nvoid _).mono ?_; rintro e w' ⟨rfl, hw⟩; obtain rfl := hw.symm)
    | go_in)
  go_ret
  exact ⟨rfl, rfl⟩

theorem nseen (w : World) : Calls Try.prog 17 #[.pointer none] w fun e w' => e = .returned (.slice none 0 0) ∧ w' = w := by
  go_enter Try.func17, Try.ntmps17
  go_wp2_with (first
    | (go_at_call 29; refine (nvoid _).mono ?_; rintro e w' ⟨rfl, hw⟩; obtain rfl := hw.symm)
    | go_in)
  go_ret
  exact ⟨rfl, rfl⟩

theorem nmine (w : World) : Calls Try.prog 18 #[.pointer none] w fun e w' => e = .returned (.slice none 0 0) ∧ w' = w := by
  go_enter Try.func18, Try.ntmps18
  go_wp2_with (first
    | (go_at_call 29; refine (nvoid _).mono ?_; rintro e w' ⟨rfl, hw⟩; obtain rfl := hw.symm)
    | go_in)
  go_ret
  exact ⟨rfl, rfl⟩

theorem naway (k : Int) (w : World) : Calls Try.prog 19 #[.pointer none, .int .i64 k] w fun e w' => e = .returned (.bool false) ∧ w' = w := by
  go_enter Try.func19, Try.ntmps19
  go_wp2_with (first
    | (go_at_call 29; refine (nvoid _).mono ?_; rintro e w' ⟨rfl, hw⟩; obtain rfl := hw.symm)
    | go_in)
  go_ret
  exact ⟨rfl, rfl⟩

theorem nawayN (k : Int) (w : World) : Calls Try.prog 20 #[.pointer none, .int .i64 k] w fun e w' => e = .returned (.bool false) ∧ w' = w := by
  go_enter Try.func20, Try.ntmps20
  go_wp2_with (first
    | (go_at_call 29; refine (nvoid _).mono ?_; rintro e w' ⟨rfl, hw⟩; obtain rfl := hw.symm)
    | go_in)
  go_ret
  exact ⟨rfl, rfl⟩

theorem nblock (k : Int) (w : World) : Calls Try.prog 8 #[.pointer none, .int .i64 k] w fun e w' => e = .returned (.tuple #[.slice none 0 0, .int .i64 1]) ∧ w' = w := by
  by_cases h : 0 ≤ k ∧ k < 96
  · obtain ⟨h0, h1⟩ := h
    have HC : Hid _ := fun w => block_at k w h0 h1
    go_enter Try.func8, Try.ntmps8
    go_wp2_with (first
      | (go_at_call 32; refine Calls.mono (HC.out _) ?_; rintro e w' ⟨rfl, hw⟩; obtain rfl := hw.symm)
      | (go_at_call 29; refine (nvoid _).mono ?_; rintro e w' ⟨rfl, hw⟩; obtain rfl := hw.symm)
      | go_in)
    go_ret2
    exact ⟨rfl, rfl⟩
  · have HC : Hid _ := fun w => block_no k w (by omega)
    clear h
    go_enter Try.func8, Try.ntmps8
    go_wp2_with (first
      | (go_at_call 32; refine Calls.mono (HC.out _) ?_; rintro e w' ⟨rfl, hw⟩; obtain rfl := hw.symm)
      | (go_at_call 29; refine (nvoid _).mono ?_; rintro e w' ⟨rfl, hw⟩; obtain rfl := hw.symm)
      | go_in)
    go_ret2
    exact ⟨rfl, rfl⟩

theorem nsetBlock (a : Option Addr) (n c : Nat) (k : Int) (w : World) : Calls Try.prog 15 #[.pointer none, .int .i64 k, .slice a n c] w fun e w' => e = .returned (.int .i64 1) ∧ w' = w := by
  by_cases h : 0 ≤ k ∧ k < 96
  · obtain ⟨h0, h1⟩ := h
    have HC : Hid _ := fun w => block_at k w h0 h1
    go_enter Try.func15, Try.ntmps15
    go_wp2_with (first
      | (go_at_call 32; refine Calls.mono (HC.out _) ?_; rintro e w' ⟨rfl, hw⟩; obtain rfl := hw.symm)
      | (go_at_call 29; refine (nvoid _).mono ?_; rintro e w' ⟨rfl, hw⟩; obtain rfl := hw.symm)
      | go_in)
    go_ret
    exact ⟨rfl, rfl⟩
  · have HC : Hid _ := fun w => block_no k w (by omega)
    clear h
    go_enter Try.func15, Try.ntmps15
    go_wp2_with (first
      | (go_at_call 32; refine Calls.mono (HC.out _) ?_; rintro e w' ⟨rfl, hw⟩; obtain rfl := hw.symm)
      | (go_at_call 29; refine (nvoid _).mono ?_; rintro e w' ⟨rfl, hw⟩; obtain rfl := hw.symm)
      | go_in)
    go_ret
    exact ⟨rfl, rfl⟩

theorem nfresh (k : Int) (w : World) : Calls Try.prog 21 #[.pointer none, .int .i64 k] w fun e w' => e = .returned (.bool false) ∧ w' = w := by
  by_cases h : 0 ≤ k ∧ k < 96
  · obtain ⟨h0, h1⟩ := h
    have HC : Hid _ := fun w => owner_at k w h0 h1
    go_enter Try.func21, Try.ntmps21
    go_wp2_with (first
      | (go_at_call 41; refine Calls.mono (HC.out _) ?_; rintro e w' ⟨rfl, hw⟩; obtain rfl := hw.symm)
      | (go_at_call 29; refine (nvoid _).mono ?_; rintro e w' ⟨rfl, hw⟩; obtain rfl := hw.symm)
      | go_in)
    go_ret
    exact ⟨rfl, rfl⟩
  · have HC : Hid _ := fun w => owner_no k w (by omega)
    clear h
    go_enter Try.func21, Try.ntmps21
    go_wp2_with (first
      | (go_at_call 41; refine Calls.mono (HC.out _) ?_; rintro e w' ⟨rfl, hw⟩; obtain rfl := hw.symm)
      | (go_at_call 29; refine (nvoid _).mono ?_; rintro e w' ⟨rfl, hw⟩; obtain rfl := hw.symm)
      | go_in)
    go_ret
    exact ⟨rfl, rfl⟩

theorem nset (k l s v d0 d1 d2 d3 d4 m : Int) (node : Int) (w : World) : Calls Try.prog 14 #[.pointer none, .int .i64 node, .agg #[.int .i64 k, .int .i64 l, .int .i64 s, .int .u64 v, .int .i64 d0, .int .i64 d1, .int .i64 d2, .int .i64 d3, .int .i64 d4, .int .i64 m]] w fun e w' => e = .returned (.int .i64 1) ∧ Below w.heap.size w w' := by
  obtain ⟨p, q, HC⟩ : ∃ p q : Int, Hid (∀ w, Calls Try.prog 28 #[.int .i64 node] w fun e w' => e = .returned (.tuple #[.int .i64 p, .int .i64 q]) ∧ w' = w) := by
    by_cases h : 0 ≤ node ∧ node < 24
    · exact ⟨_, _, fun w => card_at node w h.1 h.2⟩
    · exact ⟨_, _, fun w => card_no node w (by omega)⟩
  go_enter Try.func14, Try.ntmps14
  go_wp2_with fail
  obtain ⟨Y, hY, YS, YE, YC⟩ := Cd.new_card w k l s v d0 d1 d2 d3 d4 m
  rw [hY]
  clear hY
  have hB : Below w.heap.size w Y := YE.out Y (Below.refl _ _)
  refine Calls.mono (HC.out _) ?_
  rintro e w' ⟨rfl, hw⟩
  obtain rfl := hw.symm
  go_wp2_with (first
    | (go_at_call 29; refine (nvoid _).mono ?_; rintro e w' ⟨rfl, hw⟩; obtain rfl := hw.symm)
    | go_in)
  go_ret
  exact ⟨rfl, hB⟩
theorem ncard (node : Int) (w : World) : Calls Try.prog 7 #[.pointer none, .int .i64 node] w fun e w' => e = .returned (.tuple #[.agg #[.int .i64 0, .int .i64 0, .int .i64 0, .int .u64 0, .int .i64 0, .int .i64 0, .int .i64 0, .int .i64 0, .int .i64 0, .int .i64 0], .int .i64 1]) ∧ Below w.heap.size w w' := by
  obtain ⟨p, q, HC⟩ : ∃ p q : Int, Hid (∀ w, Calls Try.prog 28 #[.int .i64 node] w fun e w' => e = .returned (.tuple #[.int .i64 p, .int .i64 q]) ∧ w' = w) := by
    by_cases h : 0 ≤ node ∧ node < 24
    · exact ⟨_, _, fun w => card_at node w h.1 h.2⟩
    · exact ⟨_, _, fun w => card_no node w (by omega)⟩
  go_enter Try.func7, Try.ntmps7
  go_wp2_with fail
  obtain ⟨X, hX, hZ, hB, hl⟩ := zero_new w
  rw [hX]
  clear hX
  refine Calls.mono (HC.out _) ?_
  rintro e w' ⟨rfl, hw⟩
  obtain rfl := hw.symm
  have fz := hZ.frozen
  obtain ⟨z0, z1, z2, z3, z4, z5, z6, z7, z8, z9⟩ := hZ.ten
  go_wp2_with (first
    | (go_at_call 29; refine (nvoid _).mono ?_; rintro e w' ⟨rfl, hw⟩; obtain rfl := hw.symm)
    | go_in)
  refine bodyPost_ret (v := .tuple #[.agg #[_, _, _, _, _, _, _, _, _, _], _]) (by simp [results, Try.results7, go_sem, z0, z1, z2, z3, z4, z5, z6, z7, z8, z9]) rfl ⟨rfl, ?_⟩
  exact (((((((((hB.setCell (p := ⟨w.heap.size, 0, none⟩) (Nat.le_refl _) _).setCell (p := ⟨w.heap.size, 1, none⟩) (Nat.le_refl _) _).setCell (p := ⟨w.heap.size, 2, none⟩) (Nat.le_refl _) _).setCell (p := ⟨w.heap.size, 3, none⟩) (Nat.le_refl _) _).setCell (p := ⟨w.heap.size, 4, none⟩) (Nat.le_refl _) _).setCell (p := ⟨w.heap.size, 5, none⟩) (Nat.le_refl _) _).setCell (p := ⟨w.heap.size, 6, none⟩) (Nat.le_refl _) _).setCell (p := ⟨w.heap.size, 7, none⟩) (Nat.le_refl _) _).setCell (p := ⟨w.heap.size, 8, none⟩) (Nat.le_refl _) _).setCell (p := ⟨w.heap.size, 9, none⟩) (Nat.le_refl _) _

/-- A new memory of n words. -/
theorem memNew_any (n : Nat) (w : World) (hn : n < 2824) : Calls Try.prog 11 #[.int .i64 n] w fun e w' => ∃ (L : Lay) (M : Mem), e = .returned (.pointer (some ⟨L.mb, 0, none⟩)) ∧ MemIs w' L M ∧ M.sure.length = n ∧ Below w.heap.size w w' := by
  obtain ⟨i0, hi, hz0, hz1, hz2⟩ := info_parts Try.info22
  have hof := of_any
  have e1 : max (n : Int) 0 = (n : Int) := by omega
  have e2 : min (n : Int) 4096 = (n : Int) := by omega
  go_enter Try.func11, Try.ntmps11
  go_wp2_with (first
    | (at_make; refine wpList_make_full _ rfl _ _ 26 rfl w.heap.size 22 i0 (.int .u64 0) 1 Try.underlying26 hi hz0 hz1 _ _ _ _ n rfl rfl rfl rfl (by rw [hz2]; omega) (by unfold maxLen; omega) (Nat.le_refl _) ?_; intro w1 hown hgrow)
    | (go_at_call 34; refine (hof _ _ _ _).mono ?_; rintro e w2 ⟨rfl, rfl⟩)
    | go_in)
  go_ret
  have hb : Below w.heap.size w w1 := (Below.refl _ _).grown hgrow (Nat.le_refl _) (fun k h => by cases h)
  have hrow : w1.ownsRow w.heap.size 22 1 (.slice (some ⟨w.heap.size, 0, none⟩) (List.replicate n (0 : Int)).length n) (List.replicate n (0 : Int)).length ((List.replicate n (0 : Int)).map (Value.int .u64)) := by
    rw [List.map_replicate, List.length_replicate, ← toList_zeros]
    exact hown
  obtain ⟨L, h1, h2, h3, h4⟩ := mem_of_row w w1 _ n (List.replicate n (0 : Int)) hrow (by simp; omega) (fun v hv => by rw [List.eq_of_mem_replicate hv]; rfl) hb
  rw [List.length_replicate] at h2 h4
  exact ⟨L, fresh (List.replicate n (0 : Int)), by rw [h1]; rfl, h2, by rw [fresh_sure, List.length_replicate], h4⟩

end Go.Proofs.Ythoeogabbjcciaa
