/- Contracts of Right (the program's and the document's): which cards may be. -/
import Derived.Test.YtomlbifplliakaaGreatCdBase
import Derived.Deep.RegionHeld3
namespace Go.Proofs.YtomlbifplliakaaGreat.Cd
open Go.RowKit

/-- The card of no file. -/
def No (k l s d0 d1 d2 d3 d4 m : Int) : Prop := k = 0 ∧ l = 0 ∧ s = 0 ∧ (d0 = -1 ∧ d1 = -1 ∧ d2 = -1 ∧ d3 = -1 ∧ d4 = -1) ∧ m = -1
/-- A file's card. -/
def Fl (k l s d0 d1 d2 d3 d4 m : Int) : Prop := (k = 1 ∨ k = 2 ∨ k = 3) ∧ (0 ≤ l ∧ l ≤ 255) ∧ (0 ≤ s ∧ s ≤ 2688) ∧ Bk d0 d1 d2 d3 d4 m
/-- A card that may be. -/
def Rt (k l s d0 d1 d2 d3 d4 m : Int) : Prop := No k l s d0 d1 d2 d3 d4 m ∨ Fl k l s d0 d1 d2 d3 d4 m

theorem below_box {w w1 : World} {o : Obj} (hb : Below (w.alloc o).heap.size (w.alloc o) w1) : Below w.heap.size w w1 :=
  ((Below.refl _ _).alloc (Nat.le_refl _) _).trans (hb.mono (by simp))
theorem below_box0 (w : World) (o : Obj) : Below w.heap.size w (w.alloc o) := (Below.refl _ _).alloc (Nat.le_refl _) _
theorem below_next {B : Nat} {w w1 w2 : World} (h : Below B w w1) (h2 : Below w1.heap.size w1 w2) (hB : B ≤ w.heap.size) : Below B w w2 := h.trans (h2.mono (Nat.le_trans hB h.size))

set_option maxHeartbeats 1000000 in
theorem right_file (k l s v d0 d1 d2 d3 d4 m : Int) (w : World) (h : Fl k l s d0 d1 d2 d3 d4 m) :
    Calls Tryz.prog 73 #[.agg #[.int .i64 k, .int .i64 l, .int .i64 s, .int .u64 v, .int .i64 d0, .int .i64 d1, .int .i64 d2, .int .i64 d3, .int .i64 d4, .int .i64 m]] w fun e w' => e = .returned (.bool true) ∧ Below w.heap.size w w' := by
  have H : Hid (Fl k l s d0 d1 d2 d3 d4 m) := h
  clear h
  go_enter Tryz.func73, Tryz.ntmps73
  go_wp2_with fail
  refine (isFile_yes k _ H.out.1).mono ?_
  rintro e w' ⟨rfl, rfl⟩
  go_wp2_with fail
  refine (within_yes _ _ _ _ H.out.2.1.1 H.out.2.1.2).mono ?_
  rintro e w' ⟨rfl, rfl⟩
  go_wp2_with fail
  refine (within_yes _ _ _ _ H.out.2.2.1.1 H.out.2.2.1.2).mono ?_
  rintro e w' ⟨rfl, rfl⟩
  go_wp2_with fail
  refine (blocks_any k l s v d0 d1 d2 d3 d4 m _).mono ?_
  rintro e w1 ⟨rfl, hb1⟩
  have B1 := below_box hb1
  clear hb1
  go_wp2_with fail
  refine (blocksRight_yes _ _ _ _ _ _ _ H.out.2.2.2).mono ?_
  rintro e w2 ⟨rfl, hb2⟩
  go_wp2
  go_ret
  exact ⟨rfl, below_next B1 hb2 (Nat.le_refl _)⟩

set_option maxHeartbeats 1000000 in
theorem right_bad1 (k l s v d0 d1 d2 d3 d4 m : Int) (w : World) (hk : k = 1 ∨ k = 2 ∨ k = 3) (h : ¬ (0 ≤ l ∧ l ≤ 255)) :
    Calls Tryz.prog 73 #[.agg #[.int .i64 k, .int .i64 l, .int .i64 s, .int .u64 v, .int .i64 d0, .int .i64 d1, .int .i64 d2, .int .i64 d3, .int .i64 d4, .int .i64 m]] w fun e w' => e = .returned (.bool false) ∧ Below w.heap.size w w' := by
  have HK : Hid (k = 1 ∨ k = 2 ∨ k = 3) := hk
  have H : Hid (¬ (0 ≤ l ∧ l ≤ 255)) := h
  clear hk h
  go_enter Tryz.func73, Tryz.ntmps73
  go_wp2_with fail
  refine (isFile_yes k _ HK.out).mono ?_
  rintro e w' ⟨rfl, rfl⟩
  go_wp2_with fail
  refine (within_no _ _ _ _ H.out).mono ?_
  rintro e w' ⟨rfl, rfl⟩
  go_wp2
  go_ret
  exact ⟨rfl, below_box0 _ _⟩
set_option maxHeartbeats 1000000 in
theorem right_bad2 (k l s v d0 d1 d2 d3 d4 m : Int) (w : World) (hk : k = 1 ∨ k = 2 ∨ k = 3) (h1 : 0 ≤ l ∧ l ≤ 255) (h : ¬ (0 ≤ s ∧ s ≤ 2688)) :
    Calls Tryz.prog 73 #[.agg #[.int .i64 k, .int .i64 l, .int .i64 s, .int .u64 v, .int .i64 d0, .int .i64 d1, .int .i64 d2, .int .i64 d3, .int .i64 d4, .int .i64 m]] w fun e w' => e = .returned (.bool false) ∧ Below w.heap.size w w' := by
  have HK : Hid (k = 1 ∨ k = 2 ∨ k = 3) := hk
  have H1 : Hid (0 ≤ l ∧ l ≤ 255) := h1
  have H : Hid (¬ (0 ≤ s ∧ s ≤ 2688)) := h
  clear hk h h1
  go_enter Tryz.func73, Tryz.ntmps73
  go_wp2_with fail
  refine (isFile_yes k _ HK.out).mono ?_
  rintro e w' ⟨rfl, rfl⟩
  go_wp2_with fail
  refine (within_yes _ _ _ _ H1.out.1 H1.out.2).mono ?_
  rintro e w' ⟨rfl, rfl⟩
  go_wp2_with fail
  refine (within_no _ _ _ _ H.out).mono ?_
  rintro e w' ⟨rfl, rfl⟩
  go_wp2
  go_ret
  exact ⟨rfl, below_box0 _ _⟩
set_option maxHeartbeats 1000000 in
theorem right_bad3 (k l s v d0 d1 d2 d3 d4 m : Int) (w : World) (hk : k = 1 ∨ k = 2 ∨ k = 3) (h1 : 0 ≤ l ∧ l ≤ 255) (h2 : 0 ≤ s ∧ s ≤ 2688) (h : ¬ Bk d0 d1 d2 d3 d4 m) :
    Calls Tryz.prog 73 #[.agg #[.int .i64 k, .int .i64 l, .int .i64 s, .int .u64 v, .int .i64 d0, .int .i64 d1, .int .i64 d2, .int .i64 d3, .int .i64 d4, .int .i64 m]] w fun e w' => e = .returned (.bool false) ∧ Below w.heap.size w w' := by
  have HK : Hid (k = 1 ∨ k = 2 ∨ k = 3) := hk
  have H1 : Hid (0 ≤ l ∧ l ≤ 255) := h1
  have H2 : Hid (0 ≤ s ∧ s ≤ 2688) := h2
  have H : Hid (¬ Bk d0 d1 d2 d3 d4 m) := h
  clear hk h h1 h2
  go_enter Tryz.func73, Tryz.ntmps73
  go_wp2_with fail
  refine (isFile_yes k _ HK.out).mono ?_
  rintro e w' ⟨rfl, rfl⟩
  go_wp2_with fail
  refine (within_yes _ _ _ _ H1.out.1 H1.out.2).mono ?_
  rintro e w' ⟨rfl, rfl⟩
  go_wp2_with fail
  refine (within_yes _ _ _ _ H2.out.1 H2.out.2).mono ?_
  rintro e w' ⟨rfl, rfl⟩
  go_wp2_with fail
  refine (blocks_any k l s v d0 d1 d2 d3 d4 m _).mono ?_
  rintro e w1 ⟨rfl, hb1⟩
  have B1 := below_box hb1
  clear hb1
  go_wp2_with fail
  refine (blocksRight_no _ _ _ _ _ _ _ H.out).mono ?_
  rintro e w2 ⟨rfl, hb2⟩
  go_wp2
  go_ret
  exact ⟨rfl, below_next B1 hb2 (Nat.le_refl _)⟩

theorem no_eq (k l s v d0 d1 d2 d3 d4 m : Int) (b : Bool) (hb : No k l s d0 d1 d2 d3 d4 m ↔ b = true) (w : World) :
    (Op.equalIn 10000 38 (.agg #[.int .i64 k, .int .i64 l, .int .i64 s, .int .u64 v, .int .i64 d0, .int .i64 d1, .int .i64 d2, .int .i64 d3, .int .i64 d4, .int .i64 m]) (.agg #[.int .i64 0, .int .i64 0, .int .i64 0, .int .u64 v, .int .i64 (-1), .int .i64 (-1), .int .i64 (-1), .int .i64 (-1), .int .i64 (-1), .int .i64 (-1)])).run Tryz.prog w = .ok b w := by
  rw [eq_card]
  congr 1
  rw [Bool.eq_iff_iff, decide_eq_true_eq, ← hb]
  unfold No
  simp

set_option maxHeartbeats 1000000 in
theorem right_nofile (k l s v d0 d1 d2 d3 d4 m : Int) (w : World) (b : Bool) (hk : ¬ (k = 1 ∨ k = 2 ∨ k = 3)) (hb : No k l s d0 d1 d2 d3 d4 m ↔ b = true) :
    Calls Tryz.prog 73 #[.agg #[.int .i64 k, .int .i64 l, .int .i64 s, .int .u64 v, .int .i64 d0, .int .i64 d1, .int .i64 d2, .int .i64 d3, .int .i64 d4, .int .i64 m]] w fun e w' => e = .returned (.bool b) ∧ Below w.heap.size w w' := by
  have HK : Hid (¬ (k = 1 ∨ k = 2 ∨ k = 3)) := hk
  have he := no_eq k l s v d0 d1 d2 d3 d4 m b hb
  clear hk hb
  go_enter Tryz.func73, Tryz.ntmps73
  go_wp2_with fail
  refine (isFile_no k _ HK.out).mono ?_
  rintro e w' ⟨rfl, rfl⟩
  obtain ⟨W, hW, HS, HE, HC⟩ := new_card w k l s v d0 d1 d2 d3 d4 m
  rw [hW]
  clear hW
  have bel : Below W.heap.size W W := Below.refl _ _
  obtain ⟨c0, c1, c2, c3, c4, c5, c6, c7, c8, c9⟩ := HC.out W bel
  go_wp2_with fail
  go_region_held3 (fun v' => v'.cell? ⟨w.heap.size, 0, none⟩ = some (.int .i64 k) ∧ v'.cell? ⟨w.heap.size, 1, none⟩ = some (.int .i64 l) ∧ v'.cell? ⟨w.heap.size, 2, none⟩ = some (.int .i64 s) ∧ v'.cell? ⟨w.heap.size, 3, none⟩ = some (.int .u64 v) ∧ v'.cell? ⟨w.heap.size, 4, none⟩ = some (.int .i64 d0) ∧ v'.cell? ⟨w.heap.size, 5, none⟩ = some (.int .i64 d1) ∧ v'.cell? ⟨w.heap.size, 6, none⟩ = some (.int .i64 d2) ∧ v'.cell? ⟨w.heap.size, 7, none⟩ = some (.int .i64 d3) ∧ v'.cell? ⟨w.heap.size, 8, none⟩ = some (.int .i64 d4) ∧ v'.cell? ⟨w.heap.size, 9, none⟩ = some (.int .i64 m)) (first | exact HC.out _ bel | exact HC.out _ bel.drew)
    (first
      | (go_at_call 83; refine Calls.mono (none_any v _) ?_; rintro e v1 ⟨rfl, hb⟩; have bel := bel.drew.trans (hb.mono bel.size); clear hb))
  all_goals
    have BF : Hid (Below w.heap.size w _) := HE.out _ bel
    go_wp2
    go_ret
    exact ⟨rfl, BF.out⟩

theorem right_yes (k l s v d0 d1 d2 d3 d4 m : Int) (w : World) (h : Rt k l s d0 d1 d2 d3 d4 m) :
    Calls Tryz.prog 73 #[.agg #[.int .i64 k, .int .i64 l, .int .i64 s, .int .u64 v, .int .i64 d0, .int .i64 d1, .int .i64 d2, .int .i64 d3, .int .i64 d4, .int .i64 m]] w fun e w' => e = .returned (.bool true) ∧ Below w.heap.size w w' := by
  rcases h with h | h
  · exact right_nofile k l s v d0 d1 d2 d3 d4 m w true (by have := h.1; omega) (by simp [h])
  · exact right_file k l s v d0 d1 d2 d3 d4 m w h
theorem right_no (k l s v d0 d1 d2 d3 d4 m : Int) (w : World) (h : ¬ Rt k l s d0 d1 d2 d3 d4 m) :
    Calls Tryz.prog 73 #[.agg #[.int .i64 k, .int .i64 l, .int .i64 s, .int .u64 v, .int .i64 d0, .int .i64 d1, .int .i64 d2, .int .i64 d3, .int .i64 d4, .int .i64 m]] w fun e w' => e = .returned (.bool false) ∧ Below w.heap.size w w' := by
  by_cases hk : k = 1 ∨ k = 2 ∨ k = 3
  · by_cases h1 : 0 ≤ l ∧ l ≤ 255
    · by_cases h2 : 0 ≤ s ∧ s ≤ 2688
      · exact right_bad3 k l s v d0 d1 d2 d3 d4 m w hk h1 h2 fun hb => h (.inr ⟨hk, h1, h2, hb⟩)
      · exact right_bad2 k l s v d0 d1 d2 d3 d4 m w hk h1 h2
    · exact right_bad1 k l s v d0 d1 d2 d3 d4 m w hk h1
  · exact right_nofile k l s v d0 d1 d2 d3 d4 m w false hk ⟨fun hn => absurd (.inl hn) h, fun hf => by cases hf⟩
end Go.Proofs.YtomlbifplliakaaGreat.Cd
