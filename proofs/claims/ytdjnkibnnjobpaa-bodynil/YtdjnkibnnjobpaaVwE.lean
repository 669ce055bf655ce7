/- Contracts of the view's Block, SetBlock, Avoid, Avoids, AvoidsNode, Fresh, Reset and New. -/
import Derived.Test.YtdjnkibnnjobpaaVwD
namespace Go.Proofs.Ytdjnkibnnjobpaa
open Go.RowKit Go.Maps Go.ChangeMaps

theorem vblock_no (V : VLay) (S : Vw) (N : Nat) (k : Int) (w : World) (h : ViewIs w V S N) (hn : k < 0 ∨ 96 ≤ k) :
    Calls Try.prog 30 #[.pointer (some ⟨V.vb, 0, none⟩), .int .i64 k] w fun e w' => e = .returned (.tuple #[.slice none 0 0, .int .i64 1]) ∧ w' = w := by
  have HC : Hid (∀ w, Calls Try.prog 43 #[.int .i64 k] w fun e w' => e = .returned (.tuple #[.int .i64 0, .int .i64 1]) ∧ w' = w) := fun w => block_no k w hn
  clear hn
  go_enter Try.func30, Try.ntmps30
  go_wp2_with (first
    | (go_at_call 43; refine Calls.mono (HC.out _) ?_; rintro e w' ⟨rfl, hw⟩; obtain rfl := hw.symm)
    | (go_at_call 44; refine (void_any V S N _ h).mono ?_; rintro e w' ⟨rfl, hw⟩; obtain rfl := hw.symm)
    | go_in)
  go_ret2
  exact ⟨rfl, rfl⟩
theorem vblock_yes (V : VLay) (S : Vw) (N : Nat) (L : Lay) (M : Mem) (k : Int) (w : World) (h : ViewIs w V S N) (hm : MemIs w L M) (hv : V.mb = L.mb) (h0 : 0 ≤ k) (h1 : k < 96) :
    Calls Try.prog 30 #[.pointer (some ⟨V.vb, 0, none⟩), .int .i64 k] w fun e w' => e = .returned (.tuple #[.slice (some ⟨w.heap.size, 0, none⟩) 16 16, .int .i64 0]) ∧ w'.ownsRow w.heap.size 23 1 (.slice (some ⟨w.heap.size, 0, none⟩) 16 16) 16 ((List.range 16).map fun (i : Nat) => Value.int .u64 (S.word M (1288 + 16 * k + (i : Int)))) ∧ Below w.heap.size w w' := by
  have HC : Hid (∀ w, Calls Try.prog 43 #[.int .i64 k] w fun e w' => e = .returned (.tuple #[.int .i64 (1288 + 16 * k), .int .i64 0]) ∧ w' = w) := fun w => block_at k w h0 h1
  go_enter Try.func30, Try.ntmps30
  go_wp2_with (first
    | (go_at_call 43; refine Calls.mono (HC.out _) ?_; rintro e w' ⟨rfl, hw⟩; obtain rfl := hw.symm)
    | (go_at_call 44; refine (void_any V S N _ h).mono ?_; rintro e w' ⟨rfl, hw⟩; obtain rfl := hw.symm)
    | (go_at_call 45; refine (vrow_any V S N L M (1288 + 16 * k) 16 _ h hm hv (by omega) (by omega) (by omega)).mono ?_; rintro e w3 ⟨rfl, hrow, hb3⟩; have HX : Hid _ := hrow; clear hrow)
    | go_in)
  go_ret2
  exact ⟨rfl, HX.out, hb3⟩

/-- The words that SetBlock lays. -/
def blockRow (n : Nat) (f : Nat → Int) (i : Nat) : Int := if i < n then f i else 0
theorem block_open {k : Int} (h0 : 0 ≤ k) (h1 : k < 96) : ∀ j : Int, 1288 + 16 * k ≤ j → j < 1288 + 16 * k + ((16 : Nat) : Int) → openI j := fun j _ _ => by unfold openI; omega

theorem vsetBlock_no (V : VLay) (S : Vw) (N : Nat) (k : Int) (a : Option Addr) (n c : Nat) (w : World) (h : ViewIs w V S N) (hn : k < 0 ∨ 96 ≤ k) :
    Calls Try.prog 50 #[.pointer (some ⟨V.vb, 0, none⟩), .int .i64 k, .slice a n c] w fun e w' => e = .returned (.int .i64 1) ∧ w' = w := by
  have HC : Hid (∀ w, Calls Try.prog 43 #[.int .i64 k] w fun e w' => e = .returned (.tuple #[.int .i64 0, .int .i64 1]) ∧ w' = w) := fun w => block_no k w hn
  clear hn
  go_enter Try.func50, Try.ntmps50
  go_wp2_with (first
    | (go_at_call 43; refine Calls.mono (HC.out _) ?_; rintro e w' ⟨rfl, hw⟩; obtain rfl := hw.symm)
    | (go_at_call 44; refine (void_any V S N _ h).mono ?_; rintro e w' ⟨rfl, hw⟩; obtain rfl := hw.symm)
    | go_in)
  go_ret
  exact ⟨rfl, rfl⟩
theorem vsetBlock_long (V : VLay) (S : Vw) (N : Nat) (k : Int) (a : Option Addr) (n c : Nat) (w : World) (h : ViewIs w V S N) (h0 : 0 ≤ k) (h1 : k < 96) (hn : 16 < n) :
    Calls Try.prog 50 #[.pointer (some ⟨V.vb, 0, none⟩), .int .i64 k, .slice a n c] w fun e w' => e = .returned (.int .i64 1) ∧ w' = w := by
  have HC : Hid (∀ w, Calls Try.prog 43 #[.int .i64 k] w fun e w' => e = .returned (.tuple #[.int .i64 (1288 + 16 * k), .int .i64 0]) ∧ w' = w) := fun w => block_at k w h0 h1
  have hn' : (16 : Int) < n := by omega
  go_enter Try.func50, Try.ntmps50
  go_wp2_with (first
    | (go_at_call 43; refine Calls.mono (HC.out _) ?_; rintro e w' ⟨rfl, hw⟩; obtain rfl := hw.symm)
    | (go_at_call 44; refine (void_any V S N _ h).mono ?_; rintro e w' ⟨rfl, hw⟩; obtain rfl := hw.symm)
    | go_in)
  go_ret
  exact ⟨rfl, rfl⟩

theorem size22b : (Try.prog.info? 23).map (·.size) = some 1 := by kernel_rfl
theorem zero16 : #[.int .u64 0, .int .u64 0, .int .u64 0, .int .u64 0, .int .u64 0, .int .u64 0, .int .u64 0, .int .u64 0, .int .u64 0, .int .u64 0, .int .u64 0, .int .u64 0, .int .u64 0, .int .u64 0, .int .u64 0, .int .u64 0] = (rowI (fun _ => 0) 16).toArray := by kernel_rfl
/-- A copy of at most 16 words into a new row of 16. -/
theorem run_copy16 (w : World) (g : Nat) (t : TypeId) (f h : Nat → Int) (sp : Option Addr) (n c : Nat) (hR : w.heap[g]? = some (.cells (rowI f 16).toArray t (0, 0))) (hU : UAt w sp n h) (hn : n ≤ 16) :
    ∃ w', (Builtin.copy_ #[30, 30] 3 #[.slice (some ⟨g, 0, none⟩) 16 16, .slice sp n c]).run Try.prog w = .ok (.int .i64 n) w' ∧ Hid (w'.heap[g]? = some (.cells (rowI (over f h 0 n) 16).toArray t (0, 0))) ∧ Hid (Below g w w') := by
  by_cases h0 : n = 0
  · subst h0
    have hr := run_copy_none (P := Try.prog) w 30 30 3 23 (some ⟨g, 0, none⟩) sp 16 16 0 c Try.underlying30 size22b rfl
    refine ⟨w, hr, ?_, Below.refl _ _⟩
    have e : over f h 0 0 = f := by
      funext j
      unfold over
      rw [if_neg (by omega)]
    rw [e]; exact hR
  · obtain ⟨b, o, rfl, hlt, hc⟩ := hU.resolve_left h0
    have hr := run_copy_row (P := Try.prog) w 30 30 3 23 g 0 16 16 ⟨b, o, none⟩ n c (rowI f 16).toArray t (rowI h n) Try.underlying30 size22b hR (by rw [rowI_len]; exact (Nat.min_eq_left hn).symm) ?src ?fit (rowI_one _ _)
    case src =>
      intro j v hj
      by_cases hjm : j < n
      · rw [rowI_at h n j hjm] at hj
        cases hj
        rw [Addr.add_lit]
        exact hc j hjm
      · rw [rowI_out h n j hjm] at hj
        cases hj
    case fit => rw [rowI_len, List.size_toArray, rowI_len]; omega
    have e := splice_rows f h 16 0 n (by omega)
    rw [e, rowI_len] at hr
    exact ⟨_, hr, setRow_heap w g _ _ _ _ hR, below_setRow (Below.refl _ _) (Nat.le_refl _) _⟩

set_option maxHeartbeats 1000000 in
set_option maxRecDepth 100000 in
theorem vsetBlock_yes (V : VLay) (S : Vw) (N : Nat) (k : Int) (a : Option Addr) (n c : Nat) (f : Nat → Int) (w : World) (h : ViewIs w V S N) (hN : N < 900000000) (h0 : 0 ≤ k) (h1 : k < 96) (hn : n ≤ 16) (hU : UAt w a n f) (hf : ∀ i, i < n → (Lit.int .u64 (f i)).wf = true) :
    Calls Try.prog 50 #[.pointer (some ⟨V.vb, 0, none⟩), .int .i64 k, .slice a n c] w fun e w' => e = .returned (.int .i64 0) ∧ ViewIs w' V { S with own := rowOwn S.own (1288 + 16 * k) (blockRow n f) 16 } (N + 16) ∧ Only [V.ob] w w' := by
  have HC : Hid (∀ w, Calls Try.prog 43 #[.int .i64 k] w fun e w' => e = .returned (.tuple #[.int .i64 (1288 + 16 * k), .int .i64 0]) ∧ w' = w) := fun w => block_at k w h0 h1
  have HF : Hid (∀ i, i < 16 → (Lit.int .u64 (blockRow n f i)).wf = true) := fun i hi => by
    unfold blockRow
    split
    · exact hf i (by assumption)
    · rfl
  have HU : Hid (UAt w a n f) := hU
  have HLT : Hid (∀ j ∈ V.all, j < w.heap.size) := h.all_lt
  have hn' : ¬ (16 : Int) < n := by omega
  clear hf hU
  go_enter Try.func50, Try.ntmps50
  go_wp2_with fail
  refine Calls.mono (HC.out _) ?_
  rintro e w' ⟨rfl, hw⟩
  obtain rfl := hw.symm
  go_wp2_with fail
  refine (void_any V S N _ h).mono ?_
  rintro e w' ⟨rfl, hw⟩
  obtain rfl := hw.symm
  have hbA : Below w.heap.size w (w.alloc (.cells #[.int .u64 0, .int .u64 0, .int .u64 0, .int .u64 0, .int .u64 0, .int .u64 0, .int .u64 0, .int .u64 0, .int .u64 0, .int .u64 0, .int .u64 0, .int .u64 0, .int .u64 0, .int .u64 0, .int .u64 0, .int .u64 0] 111)) := (Below.refl _ _).alloc (Nat.le_refl _) _
  have hR0 : (w.alloc (.cells #[.int .u64 0, .int .u64 0, .int .u64 0, .int .u64 0, .int .u64 0, .int .u64 0, .int .u64 0, .int .u64 0, .int .u64 0, .int .u64 0, .int .u64 0, .int .u64 0, .int .u64 0, .int .u64 0, .int .u64 0, .int .u64 0] 111)).heap[w.heap.size]? = some (.cells (rowI (fun _ => 0) 16).toArray 111 (0, 0)) := by
    rw [heap_alloc_new, zero16]
  obtain ⟨w5, hrun5, R5, B5⟩ := run_copy16 _ w.heap.size _ _ f a n c hR0 (HU.out.later (Nat.le_refl _) hbA) hn
  have hB : Below w.heap.size w w5 := hbA.trans B5.out
  have HV5 : Hid (ViewIs w5 V S N) := h.later hB
  have HB5 : Hid (Below w.heap.size w w5) := hB
  have HG : Hid (w.heap.size < w5.heap.size ∧ w.heap.size ∉ V.all) := ⟨by have := B5.out.size; simp at this; omega, fun hm => by have := HLT.out _ hm; omega⟩
  have HW : Hid (Words w5 w.heap.size 0 16 (blockRow n f)) := fun i hi => by
    have e1 : w5.cell? ⟨w.heap.size, i, none⟩ = some (.int .u64 (over (fun _ => 0) f 0 n i)) := by
      rw [cell_of_row w5 w.heap.size i _ _ _ R5.out]
      simpa using rowI_at (over (fun _ => 0) f 0 n) 16 i hi
    rw [Nat.zero_add, e1]
    unfold over blockRow
    by_cases e : i < n
    · rw [if_pos ⟨by omega, by omega⟩, if_pos e]; rfl
    · rw [if_neg (by omega), if_neg e]
  clear hbA hR0 R5 B5 hB
  have HS : Hid (Calls Try.prog 64 #[.pointer (some ⟨V.vb, 0, none⟩), .int .i64 (1288 + 16 * k), .slice (some ⟨w.heap.size, 0, none⟩) 16 16] w5 fun e w' => e = .returned (.tuple #[]) ∧ ViewIs w' V { S with own := rowOwn S.own (1288 + 16 * k) (blockRow n f) 16 } (N + 16) ∧ Only [V.ob] w5 w') :=
    vsetRow_any V S N (1288 + 16 * k) w.heap.size 0 16 16 (blockRow n f) w5 HV5.out (by omega) (by omega) (by omega) (by omega) (block_open h0 h1) HG.out.2 HG.out.1 HF.out HW.out
  go_wp2_with fail
  refine Calls.mono (Hid.out HS) ?_
  rintro e w3 ⟨rfl, hv3, ho3⟩
  go_wp2
  go_ret
  exact ⟨rfl, hv3, (Only.of_below HB5.out).trans ho3⟩

theorem away_any (V : VLay) (S : Vw) (N : Nat) (k : Int) (w : World) (h : ViewIs w V S N) (hk : (Lit.int .i64 k).wf = true) :
    Calls Try.prog 58 #[.pointer (some ⟨V.vb, 0, none⟩), .int .i64 k] w fun e w' => e = .returned (.bool (S.away k)) ∧ w' = w := by
  have c4 := h.c4
  have hr := h.away.run hk
  go_enter Try.func58, Try.ntmps58
  go_wp2_with (first
    | (go_at_call 44; refine (void_any V S N _ h).mono ?_; rintro e w' ⟨rfl, hw⟩; obtain rfl := hw.symm)
    | go_in)
  go_ret
  exact ⟨rfl, rfl⟩
/-- Is the block free, in the memory and in the view, and not to be left alone? -/
def freshB (S : Vw) (M : Mem) (k : Int) : Bool := decide (0 ≤ k ∧ k < 96) && decide (M.read (200 + k) = 0) && decide (S.word M (200 + k) = 0) && !S.away k
theorem vfresh_no (V : VLay) (S : Vw) (N : Nat) (k : Int) (w : World) (h : ViewIs w V S N) (hn : k < 0 ∨ 96 ≤ k) :
    Calls Try.prog 42 #[.pointer (some ⟨V.vb, 0, none⟩), .int .i64 k] w fun e w' => e = .returned (.bool false) ∧ w' = w := by
  have HC : Hid (∀ w, Calls Try.prog 55 #[.int .i64 k] w fun e w' => e = .returned (.tuple #[.int .i64 0, .int .i64 1]) ∧ w' = w) := fun w => owner_no k w hn
  clear hn
  go_enter Try.func42, Try.ntmps42
  go_wp2_with (first
    | (go_at_call 55; refine Calls.mono (HC.out _) ?_; rintro e w' ⟨rfl, hw⟩; obtain rfl := hw.symm)
    | (go_at_call 44; refine (void_any V S N _ h).mono ?_; rintro e w' ⟨rfl, hw⟩; obtain rfl := hw.symm)
    | go_in)
  go_ret
  exact ⟨rfl, rfl⟩
theorem vfresh_yes (V : VLay) (S : Vw) (N : Nat) (L : Lay) (M : Mem) (k : Int) (w : World) (h : ViewIs w V S N) (hm : MemIs w L M) (hv : V.mb = L.mb) (h0 : 0 ≤ k) (h1 : k < 96) :
    Calls Try.prog 42 #[.pointer (some ⟨V.vb, 0, none⟩), .int .i64 k] w fun e w' => e = .returned (.bool (freshB S M k)) ∧ w' = w := by
  have HC : Hid (∀ w, Calls Try.prog 55 #[.int .i64 k] w fun e w' => e = .returned (.tuple #[.int .i64 (200 + k), .int .i64 0]) ∧ w' = w) := fun w => owner_at k w h0 h1
  have c0 := h.c0
  rw [hv] at c0
  have hk : (Lit.int .i64 (200 + k)).wf = true := WalkArith.wf_i64 (by omega)
  have hk2 : (Lit.int .i64 k).wf = true := WalkArith.wf_i64 (by omega)
  have hf : freshB S M k = (decide (M.read (200 + k) = 0) && decide (S.word M (200 + k) = 0) && !S.away k) := by simp [freshB, h0, h1]
  rw [hf]
  clear hf
  have HR : Hid (Calls Try.prog 56 #[.pointer (some ⟨L.mb, 0, none⟩), .int .i64 (200 + k)] w fun e w' => e = .returned (.int .u64 (M.read (200 + k))) ∧ w' = w) := read_any L M _ _ hm hk
  have HV : Hid (Calls Try.prog 57 #[.pointer (some ⟨V.vb, 0, none⟩), .int .i64 (200 + k)] w fun e w' => e = .returned (.int .u64 (S.word M (200 + k))) ∧ w' = w) := vread_any V S N L M _ _ h hm hv hk
  have HA : Hid (Calls Try.prog 58 #[.pointer (some ⟨V.vb, 0, none⟩), .int .i64 k] w fun e w' => e = .returned (.bool (S.away k)) ∧ w' = w) := away_any V S N k w h hk2
  obtain ⟨X, hX⟩ : ∃ X, M.read (200 + k) = X := ⟨_, rfl⟩
  obtain ⟨Y, hY⟩ : ∃ Y, S.word M (200 + k) = Y := ⟨_, rfl⟩
  obtain ⟨A, hA⟩ : ∃ A, S.away k = A := ⟨_, rfl⟩
  rw [hX] at HR
  rw [hY] at HV
  rw [hA] at HA
  rw [hX, hY, hA]
  clear hX hY hA
  by_cases x0 : X = 0
  · by_cases y0 : Y = 0
    · subst x0 y0
      go_enter Try.func42, Try.ntmps42
      go_wp2_with (first
        | (go_at_call 55; refine Calls.mono (HC.out _) ?_; rintro e w' ⟨rfl, hw⟩; obtain rfl := hw.symm)
        | (go_at_call 44; refine (void_any V S N _ h).mono ?_; rintro e w' ⟨rfl, hw⟩; obtain rfl := hw.symm)
        | (go_at_call 56; refine Calls.mono (Hid.out HR) ?_; rintro e w' ⟨rfl, hw⟩; obtain rfl := hw.symm)
        | (go_at_call 57; refine Calls.mono (Hid.out HV) ?_; rintro e w' ⟨rfl, hw⟩; obtain rfl := hw.symm)
        | (go_at_call 58; refine Calls.mono (Hid.out HA) ?_; rintro e w' ⟨rfl, hw⟩; obtain rfl := hw.symm)
        | go_in)
      go_ret
      exact ⟨ret_bool (by simp), rfl⟩
    · subst x0
      have y1 : (Y == 0) = false := by simpa using y0
      have y2 : decide (Y = 0) = false := by simpa using y0
      rw [y2]
      clear y0 y2
      go_enter Try.func42, Try.ntmps42
      go_wp2_with (first
        | (go_at_call 55; refine Calls.mono (HC.out _) ?_; rintro e w' ⟨rfl, hw⟩; obtain rfl := hw.symm)
        | (go_at_call 44; refine (void_any V S N _ h).mono ?_; rintro e w' ⟨rfl, hw⟩; obtain rfl := hw.symm)
        | (go_at_call 56; refine Calls.mono (Hid.out HR) ?_; rintro e w' ⟨rfl, hw⟩; obtain rfl := hw.symm)
        | (go_at_call 57; refine Calls.mono (Hid.out HV) ?_; rintro e w' ⟨rfl, hw⟩; obtain rfl := hw.symm)
        | go_in)
      go_ret
      exact ⟨ret_bool (by simp), rfl⟩
  · have x1 : (X == 0) = false := by simpa using x0
    have x2 : decide (X = 0) = false := by simpa using x0
    rw [x2]
    clear x0 x2
    go_enter Try.func42, Try.ntmps42
    go_wp2_with (first
      | (go_at_call 55; refine Calls.mono (HC.out _) ?_; rintro e w' ⟨rfl, hw⟩; obtain rfl := hw.symm)
      | (go_at_call 44; refine (void_any V S N _ h).mono ?_; rintro e w' ⟨rfl, hw⟩; obtain rfl := hw.symm)
      | (go_at_call 56; refine Calls.mono (Hid.out HR) ?_; rintro e w' ⟨rfl, hw⟩; obtain rfl := hw.symm)
      | go_in)
    go_ret
    exact ⟨ret_bool (by simp), rfl⟩

end Go.Proofs.Ytdjnkibnnjobpaa
