/- Contracts of the plan's places of cards, owners and blocks, and of the view's Card, Block and SetBlock. -/
import Derived.Test.YtdjnkibnnjobpaaVwB
import Derived.Test.YtdjnkibnnjobpaaCdRead
import Derived.Deep.RegionHeld3
namespace Go.Proofs.Ytdjnkibnnjobpaa
open Go.RowKit Go.Maps Go.ChangeMaps

theorem card_first (k : Int) (w : World) (h0 : 0 ≤ k) (h1 : k < 24) :
    Calls Try.prog 59 #[.int .i64 8, .int .i64 8, .int .i64 24, .int .i64 k] w fun e w' => e = .returned (.tuple #[.int .i64 (8 + 8 * k), .int .i64 0]) ∧ w' = w := by
  go_enter Try.func59, Try.ntmps59
  go_wp2
  go_ret2
  exact ⟨rfl, rfl⟩
theorem card_at (k : Int) (w : World) (h0 : 0 ≤ k) (h1 : k < 24) :
    Calls Try.prog 47 #[.int .i64 k] w fun e w' => e = .returned (.tuple #[.int .i64 (8 + 8 * k), .int .i64 0]) ∧ w' = w := by
  go_enter Try.func47, Try.ntmps47
  go_wp2_with (go_at_call 59; refine (card_first k _ h0 h1).mono ?_; rintro e w' ⟨rfl, rfl⟩)
  go_ret2
  exact ⟨rfl, rfl⟩
theorem card_nofirst (k : Int) (w : World) (h : k < 0 ∨ 24 ≤ k) :
    Calls Try.prog 59 #[.int .i64 8, .int .i64 8, .int .i64 24, .int .i64 k] w fun e w' => e = .returned (.tuple #[.int .i64 0, .int .i64 1]) ∧ w' = w := by
  rcases h with h | h
  · go_enter Try.func59, Try.ntmps59
    go_wp2
    go_ret2
    exact ⟨rfl, rfl⟩
  · have h' : ¬ k < 0 := by omega
    go_enter Try.func59, Try.ntmps59
    go_wp2
    go_ret2
    exact ⟨rfl, rfl⟩
theorem card_no (k : Int) (w : World) (h : k < 0 ∨ 24 ≤ k) :
    Calls Try.prog 47 #[.int .i64 k] w fun e w' => e = .returned (.tuple #[.int .i64 0, .int .i64 1]) ∧ w' = w := by
  have H : Hid (k < 0 ∨ 24 ≤ k) := h
  clear h
  go_enter Try.func47, Try.ntmps47
  go_wp2_with (go_at_call 59; refine (card_nofirst k _ H.out).mono ?_; rintro e w' ⟨rfl, rfl⟩)
  go_ret2
  exact ⟨rfl, rfl⟩

theorem owner_first (k : Int) (w : World) (h0 : 0 ≤ k) (h1 : k < 96) :
    Calls Try.prog 59 #[.int .i64 200, .int .i64 1, .int .i64 96, .int .i64 k] w fun e w' => e = .returned (.tuple #[.int .i64 (200 + k), .int .i64 0]) ∧ w' = w := by
  go_enter Try.func59, Try.ntmps59
  go_wp2
  go_ret2
  exact ⟨rfl, rfl⟩
theorem owner_at (k : Int) (w : World) (h0 : 0 ≤ k) (h1 : k < 96) :
    Calls Try.prog 55 #[.int .i64 k] w fun e w' => e = .returned (.tuple #[.int .i64 (200 + k), .int .i64 0]) ∧ w' = w := by
  go_enter Try.func55, Try.ntmps55
  go_wp2_with (go_at_call 59; refine (owner_first k _ h0 h1).mono ?_; rintro e w' ⟨rfl, rfl⟩)
  go_ret2
  exact ⟨rfl, rfl⟩
theorem owner_nofirst (k : Int) (w : World) (h : k < 0 ∨ 96 ≤ k) :
    Calls Try.prog 59 #[.int .i64 200, .int .i64 1, .int .i64 96, .int .i64 k] w fun e w' => e = .returned (.tuple #[.int .i64 0, .int .i64 1]) ∧ w' = w := by
  rcases h with h | h
  · go_enter Try.func59, Try.ntmps59
    go_wp2
    go_ret2
    exact ⟨rfl, rfl⟩
  · have h' : ¬ k < 0 := by omega
    go_enter Try.func59, Try.ntmps59
    go_wp2
    go_ret2
    exact ⟨rfl, rfl⟩
theorem owner_no (k : Int) (w : World) (h : k < 0 ∨ 96 ≤ k) :
    Calls Try.prog 55 #[.int .i64 k] w fun e w' => e = .returned (.tuple #[.int .i64 0, .int .i64 1]) ∧ w' = w := by
  have H : Hid (k < 0 ∨ 96 ≤ k) := h
  clear h
  go_enter Try.func55, Try.ntmps55
  go_wp2_with (go_at_call 59; refine (owner_nofirst k _ H.out).mono ?_; rintro e w' ⟨rfl, rfl⟩)
  go_ret2
  exact ⟨rfl, rfl⟩

theorem block_first (k : Int) (w : World) (h0 : 0 ≤ k) (h1 : k < 96) :
    Calls Try.prog 59 #[.int .i64 1288, .int .i64 16, .int .i64 96, .int .i64 k] w fun e w' => e = .returned (.tuple #[.int .i64 (1288 + 16 * k), .int .i64 0]) ∧ w' = w := by
  go_enter Try.func59, Try.ntmps59
  go_wp2
  go_ret2
  exact ⟨rfl, rfl⟩
theorem block_at (k : Int) (w : World) (h0 : 0 ≤ k) (h1 : k < 96) :
    Calls Try.prog 43 #[.int .i64 k] w fun e w' => e = .returned (.tuple #[.int .i64 (1288 + 16 * k), .int .i64 0]) ∧ w' = w := by
  go_enter Try.func43, Try.ntmps43
  go_wp2_with (go_at_call 59; refine (block_first k _ h0 h1).mono ?_; rintro e w' ⟨rfl, rfl⟩)
  go_ret2
  exact ⟨rfl, rfl⟩
theorem block_nofirst (k : Int) (w : World) (h : k < 0 ∨ 96 ≤ k) :
    Calls Try.prog 59 #[.int .i64 1288, .int .i64 16, .int .i64 96, .int .i64 k] w fun e w' => e = .returned (.tuple #[.int .i64 0, .int .i64 1]) ∧ w' = w := by
  rcases h with h | h
  · go_enter Try.func59, Try.ntmps59
    go_wp2
    go_ret2
    exact ⟨rfl, rfl⟩
  · have h' : ¬ k < 0 := by omega
    go_enter Try.func59, Try.ntmps59
    go_wp2
    go_ret2
    exact ⟨rfl, rfl⟩
theorem block_no (k : Int) (w : World) (h : k < 0 ∨ 96 ≤ k) :
    Calls Try.prog 43 #[.int .i64 k] w fun e w' => e = .returned (.tuple #[.int .i64 0, .int .i64 1]) ∧ w' = w := by
  have H : Hid (k < 0 ∨ 96 ≤ k) := h
  clear h
  go_enter Try.func43, Try.ntmps43
  go_wp2_with (go_at_call 59; refine (block_nofirst k _ H.out).mono ?_; rintro e w' ⟨rfl, rfl⟩)
  go_ret2
  exact ⟨rfl, rfl⟩

theorem Only.thenBelow {X : List Nat} {a b c : World} {B : Nat} (h : Only X a b) (hb : Below B b c) (hB : a.heap.size ≤ B) : Only X a c :=
  ⟨hb.os.trans h.os, hb.tape.trans h.tape, hb.output.trans h.output, Nat.le_trans h.size hb.size, fun k hk hn => (hb.block k (by omega)).trans (h.block k hk hn)⟩

theorem word_ok {V : VLay} {S : Vw} {N : Nat} {L : Lay} {M : Mem} {w : World} (h : ViewIs w V S N) (hm : MemIs w L M) (k : Int) : 0 ≤ S.word M k ∧ S.word M k ≤ 18446744073709551615 := by
  unfold Vw.word
  cases hl : S.own k with
  | some v =>
    have := h.own.wf hl
    exact bounds_u64 this
  | none =>
    simp only [Option.getD_none]
    unfold Mem.read
    split
    · cases hl2 : M.loose k with
      | some v =>
        have := hm.loose.wf hl2
        exact bounds_u64 this
      | none =>
        simp only [Option.getD_none]
        by_cases hk : k.toNat < M.sure.length
        · have := hm.words (M.sure.getD k.toNat 0) (by simp [hk])
          exact bounds_u64 this
        · simp [hk]
    · omega


theorem zero_new (w : World) : ∃ X : World, w.alloc (.cells #[.int .i64 0, .int .i64 0, .int .i64 0, .int .u64 0, .int .i64 0, .int .i64 0, .int .i64 0, .int .i64 0, .int .i64 0, .int .i64 0] 26) = X ∧ Cd.Zero X w.heap.size ∧ Below w.heap.size w X ∧ w.heap.size < X.heap.size := by
  refine ⟨_, rfl, ?_, (Below.refl _ _).alloc (Nat.le_refl _) _, by simp⟩
  unfold Cd.Zero
  show (w.heap.push _)[w.heap.size]? = _
  simp
theorem zero_only {w w' : World} {g : Nat} {X : List Nat} (h : Cd.Zero w g) (ho : Only X w w') (hg : g ∉ X) : Cd.Zero w' g := by
  have hl : g < w.heap.size := by
    by_cases e : g < w.heap.size
    · exact e
    · unfold Cd.Zero at h
      rw [Array.getElem?_eq_none (by omega)] at h
      cases h
  unfold Cd.Zero
  rw [ho.block g hl hg]
  exact h
theorem src_of_row {w : World} {g B : Nat} {f : Nat → Int} (h : w.ownsRow B 23 1 (.slice (some ⟨g, 0, none⟩) 8 8) 8 ((List.range 8).map fun (i : Nat) => Value.int .u64 (f i))) : Cd.Src w g 0 (f 0) (f 1) (f 2) (f 3) (f 4) (f 5) (f 6) (f 7) := by
  have hc : ∀ i, i < 8 → w.cell? ⟨g, i, none⟩ = some (.int .u64 (f i)) := fun i hi => by
    rw [h.cellAt i (by simpa using hi)]
    simp [hi]
  have hl := World.block_lt_of_cell? w _ (hc 0 (by omega))
  exact ⟨hl, hc 0 (by omega), hc 1 (by omega), hc 2 (by omega), hc 3 (by omega), hc 4 (by omega), hc 5 (by omega), hc 6 (by omega), hc 7 (by omega)⟩
end Go.Proofs.Ytdjnkibnnjobpaa
