/- Rows of ints; the small calls of package body: is there a view, may a file and a map be, are all places holes. -/
import Derived.Test.YtdjnkibnnjobpaaStoX
import Derived.Test.YtdjnkibnnjobpaaShS
import Derived.Test.YtdjnkibnnjobpaaWdText
import Derived.BigQuiet
import Derived.Deep.QuietTactic
namespace Go.Proofs.Ytdjnkibnnjobpaa
open Go.RowKit Go.Maps Go.ChangeMaps

def rowV (f : Nat → Int) (n : Nat) : List Value := (List.range n).map fun j => Value.int .i64 (f j)
theorem rowV_len (f : Nat → Int) (n : Nat) : (rowV f n).length = n := by simp [rowV]
theorem rowV_at (f : Nat → Int) (n j : Nat) (h : j < n) : (rowV f n)[j]? = some (.int .i64 (f j)) := by simp [rowV, h]
theorem rowV_out (f : Nat → Int) (n j : Nat) (h : ¬ j < n) : (rowV f n)[j]? = none := List.getElem?_eq_none (by rw [rowV_len]; omega)
theorem rowV_ext {l : List Value} {f : Nat → Int} {n : Nat} (hl : l.length = n) (h : ∀ j, j < n → l[j]? = some (.int .i64 (f j))) : l = rowV f n := by
  apply List.ext_getElem?
  intro j
  by_cases hj : j < n
  · rw [h j hj, rowV_at f n j hj]
  · rw [rowV_out f n j hj]; exact List.getElem?_eq_none (by omega)
theorem rowV_one (f : Nat → Int) (n : Nat) : ∀ v ∈ rowV f n, v.oneCell' = true := by
  intro v hv
  obtain ⟨j, _, rfl⟩ := List.mem_map.1 hv
  rfl
theorem rowV_congr {f g : Nat → Int} {n : Nat} (h : ∀ j, j < n → f j = g j) : rowV f n = rowV g n :=
  rowV_ext (rowV_len f n) fun j hj => by rw [rowV_at f n j hj, h j hj]
/-- The block g is a row of n ints, the j-th of them f j. -/
def IRow (w : World) (g n : Nat) (f : Nat → Int) : Prop := w.heap[g]? = some (.cells (rowV f n).toArray 3 (0, 0))
section
variable {w w' : World} {g n : Nat} {f : Nat → Int}
theorem IRow.cell (h : IRow w g n f) (j : Nat) (hj : j < n) : w.cell? ⟨g, j, none⟩ = some (.int .i64 (f j)) := by
  rw [cell_of_row w g j _ _ _ h]
  simpa using rowV_at f n j hj
theorem IRow.frozen (h : IRow w g n f) (j : Nat) : w.frozen? ⟨g, j, none⟩ = false := frozen_of_row w g j _ _ h
theorem IRow.lt (h : IRow w g n f) : g < w.heap.size := (Array.getElem?_eq_some_iff.1 h).1
theorem IRow.of_block (h : IRow w g n f) (hb : w'.heap[g]? = w.heap[g]?) : IRow w' g n f := hb.trans h
theorem IRow.later (h : IRow w g n f) (hb : Below w.heap.size w w') : IRow w' g n f := h.of_block (hb.block g h.lt)
theorem IRow.only {X : List Nat} (h : IRow w g n f) (ho : Only X w w') (hX : g ∉ X) : IRow w' g n f := h.of_block (ho.block g h.lt hX)
theorem IRow.congr {f' : Nat → Int} (h : IRow w g n f) (e : ∀ j, j < n → f j = f' j) : IRow w g n f' := by
  unfold IRow
  rw [← rowV_congr e]
  exact h
theorem set_rowV (f : Nat → Int) (n q : Nat) (v : Int) : (rowV f n).toArray.setIfInBounds q (.int .i64 v) = (rowV (updN f q v) n).toArray := by
  rw [List.setIfInBounds_toArray]
  congr 1
  apply rowV_ext (by rw [List.length_set, rowV_len])
  intro j hj
  rw [List.getElem?_set]
  unfold updN
  by_cases e : q = j
  · subst e
    rw [if_pos rfl, rowV_len, if_pos hj, if_pos rfl]
  · rw [if_neg e, if_neg (fun e' => e e'.symm), rowV_at f n j hj]
theorem IRow.set (h : IRow w g n f) (q : Nat) (v : Int) : IRow (w.setCell ⟨g, q, none⟩ (.int .i64 v)) g n (updN f q v) := by
  show (w.setCell ⟨g, q, none⟩ (.int .i64 v)).heap[g]? = _
  rw [heap_setCell_same w g q _ _ _ h, set_rowV]
theorem IRow.ints (h : IRow w g n f) (o m : Nat) (hm : o + m ≤ n) : IntsAt w (some ⟨g, o, none⟩) m (fun i => f (o + i)) :=
  .inr ⟨g, o, rfl, h.lt, fun i hi => h.cell (o + i) (by omega)⟩
end
theorem zeros_rowV (n : Nat) : List.replicate n (Value.int .i64 0) = rowV (fun _ => 0) n := rowV_ext (by simp) fun j hj => by simp [hj]
theorem made_rowV {w : World} {B g n : Nat} (h : w.ownsRow B 3 1 (.slice (some ⟨g, 0, none⟩) n n) n (madeCells #[Value.int .i64 0] n).toList) : IRow w g n (fun _ => 0) := by
  rcases h.2 with ⟨h', _⟩ | ⟨g', cap, cur, h', _, hg, _, _, hcs, htake⟩
  · simp at h'
  · simp only [Value.slice.injEq, Option.some.injEq, Addr.mk.injEq, and_true, true_and] at h'
    obtain ⟨rfl, rfl⟩ := h'
    have e : cur.toList = cur.toList.take (n * 1) := (List.take_of_length_le (by rw [Array.length_toList, hcs]; omega)).symm
    have e3 : cur = (rowV (fun _ => 0) n).toArray := by
      rw [← Array.toArray_toList (xs := cur), e, htake, toList_madeCells_one, zeros_rowV]
    unfold IRow
    rw [hg, e3]
theorem Try.info3v : (Try.prog.info? 3).map (fun i => (i.zero, i.size, i.bytes)) = some (some (.int .i64 0), 1, 8) := by kernel_rfl
theorem size3v : (Try.prog.info? 3).map (·.size) = some 1 := by kernel_rfl

/-! The small calls. -/
theorem bmissing_no (V : VLay) (S : Vw) (N : Nat) (L : Lay) (M : Mem) (w : World) (h : On w V S N L M) :
    Calls Try.prog 29 #[.pointer (some ⟨V.vb, 0, none⟩)] w fun e w' => e = .returned (.bool false) ∧ Below w.heap.size w w' := by
  have HB : Hid _ := vblock_yes V S N L M 0 w h.view h.mem h.mb (by omega) (by omega)
  clear h
  go_enter Try.func29, Try.ntmps29
  go_wp2_with fail
  refine Calls.mono (Hid.out HB) ?_
  rintro e w1 ⟨rfl, _, hb⟩
  have HB1 : Hid (Below w.heap.size w w1) := hb
  clear hb
  go_wp2
  go_ret
  exact ⟨rfl, HB1.out⟩
theorem refused_no (V : VLay) (S : Vw) (N : Nat) (L : Lay) (M : Mem) (node : Int) (w : World) (h : On w V S N L M) (n0 : 0 ≤ node) (n1 : node < 24) :
    Calls Try.prog 33 #[.pointer (some ⟨V.vb, 0, none⟩), .int .i64 node] w fun e w' => e = .returned (.bool false) ∧ Below w.heap.size w w' := by
  have HC : Hid (∀ w, Calls Try.prog 47 #[.int .i64 node] w fun e w' => e = .returned (.tuple #[.int .i64 (8 + 8 * node), .int .i64 0]) ∧ w' = w) := fun w => card_at node w n0 n1
  have HM : Hid _ := bmissing_no V S N L M w h
  clear h
  go_enter Try.func33, Try.ntmps33
  go_wp2_with (first
    | (go_at_call 47; refine Calls.mono (HC.out _) ?_; rintro e w' ⟨rfl, hw⟩; obtain rfl := hw.symm)
    | (go_at_call 29; refine Calls.mono (Hid.out HM) ?_; rintro e w1 ⟨rfl, hb⟩; have HB1 : Hid (Below w.heap.size w w1) := hb; clear hb)
    | go_in)
  go_ret
  exact ⟨rfl, HB1.out⟩

/-- Are the first n of these holes? -/
def allH (f : Nat → Int) (n : Nat) : Bool := decide (∀ i, i < n → f i = -1)
theorem allH_iff (f : Nat → Int) (n : Nat) : allH f n = true ↔ ∀ i, i < n → f i = -1 := by unfold allH; exact decide_eq_true_iff
theorem allH_congr {f g : Nat → Int} {n : Nat} (h : ∀ i, i < n → f i = g i) : allH f n = allH g n := by
  rw [Bool.eq_iff_iff, allH_iff, allH_iff]
  exact ⟨fun k i hi => (h i hi).symm.trans (k i hi), fun k i hi => (h i hi).trans (k i hi)⟩
theorem allH_first (f : Nat → Int) (n : Nat) : allH f n = true ∨ allH f n = false ∧ ∃ q, q < n ∧ f q ≠ -1 ∧ ∀ j, j < q → f j = -1 := by
  rcases first_or (fun i => !decide (f i = -1)) 0 n with ⟨q, _, hq, hp, hl⟩ | hl
  · right
    have hq' : f q ≠ -1 := by simpa using hp
    refine ⟨?_, q, by omega, hq', fun j hj => by simpa using hl j (by omega) hj⟩
    rw [Bool.eq_false_iff]
    intro h
    exact hq' ((allH_iff f n).1 h q (by omega))
  · left
    exact (allH_iff f n).2 fun i hi => by simpa using hl i (by omega) (by omega)
set_option maxHeartbeats 1000000 in
theorem allHoles_any (a : Option Addr) (n c : Nat) (f : Nat → Int) (w : World) (h : IntsAt w a n f) (hn : n ≤ 9223372036854775807) :
    Calls Try.prog 46 #[.slice a n c] w fun e w' => e = .returned (.bool (allH f n)) ∧ w' = w := by
  have HI : Hid (IntsAt w a n f) := h
  clear h
  rcases allH_first f n with hA | ⟨hA, q, hq, hx, hl⟩
  · rw [hA]
    have HL : Hid (∀ i, i < n → f i = -1) := (allH_iff f n).1 hA
    clear hA
    go_enter Try.func46, Try.ntmps46
    go_wp2
    go_loopw [4, 7] (fun _ i wr => ∃ k : Nat, k ≤ n ∧ i = .int .i64 k ∧ wr = w) (fun _ i _ => n - (intOf i).toNat)
    case atStart => exact ⟨0, Nat.zero_le _, rfl, rfl⟩
    case round =>
      obtain ⟨k, hk, rfl, hw⟩ := hrel
      obtain rfl := hw.symm
      by_cases hlt : k < n
      · obtain ⟨b, o, rfl, hbl, hc⟩ := HI.out.resolve_left (by omega)
        have x1 := hc k hlt
        rw [HL.out k hlt] at x1
        have hb : (k : Int) < (n : Int) := by omega
        clear hc
        go_wp2
        go_roundw
        case rel => exact ⟨k + 1, by omega, by go_num, trivial⟩
        case measure => simp [intOf]; omega
      · obtain rfl : k = n := by omega
        go_wp2
        go_ret
        exact ⟨rfl, rfl⟩
  · rw [hA]
    have HL : Hid (∀ j, j < q → f j = -1) := hl
    clear hA hl
    go_enter Try.func46, Try.ntmps46
    go_wp2
    go_loopw [4, 7] (fun _ i wr => ∃ k : Nat, k ≤ q ∧ i = .int .i64 k ∧ wr = w) (fun _ i _ => n - (intOf i).toNat)
    case atStart => exact ⟨0, Nat.zero_le _, rfl, rfl⟩
    case round =>
      obtain ⟨k, hk, rfl, hw⟩ := hrel
      obtain rfl := hw.symm
      obtain ⟨b, o, rfl, hbl, hc⟩ := HI.out.resolve_left (by omega)
      have x1 := hc k (by omega)
      have hb : (k : Int) < (n : Int) := by omega
      clear hc
      by_cases hlt : k < q
      · rw [HL.out k hlt] at x1
        go_wp2
        go_roundw
        case rel => exact ⟨k + 1, by omega, by go_num, trivial⟩
        case measure => simp [intOf]; omega
      · obtain rfl : k = q := by omega
        obtain ⟨X, hX⟩ : ∃ X, f k = X := ⟨_, rfl⟩
        rw [hX] at x1 hx
        have hne : (X != -1) = true := by simpa using hx
        clear hX
        go_wp2
        go_ret
        exact ⟨rfl, rfl⟩

/-- May a map be? -/
def mayB (f : Nat → Int) (n : Nat) : Bool := decide (n = 21) && decide (∀ i, i < n → -1 ≤ f i ∧ f i < 96)
theorem mayB_iff (f : Nat → Int) (n : Nat) : mayB f n = true ↔ n = 21 ∧ ∀ i, i < n → -1 ≤ f i ∧ f i < 96 := by
  unfold mayB
  rw [Bool.and_eq_true, decide_eq_true_iff, decide_eq_true_iff]
theorem mayB_first (f : Nat → Int) (n : Nat) : (∀ i, i < n → -1 ≤ f i ∧ f i < 96) ∧ mayB f n = decide (n = 21) ∨ mayB f n = false ∧ ∃ q, q < n ∧ ¬ (-1 ≤ f q ∧ f q < 96) ∧ ∀ j, j < q → -1 ≤ f j ∧ f j < 96 := by
  rcases first_or (fun i => !decide (-1 ≤ f i ∧ f i < 96)) 0 n with ⟨q, _, hq, hp, hl⟩ | hl
  · right
    have hq' : ¬ (-1 ≤ f q ∧ f q < 96) := by simp at hp; omega
    refine ⟨?_, q, by omega, hq', fun j hj => by simpa using hl j (by omega) hj⟩
    rw [Bool.eq_false_iff]
    intro h
    exact hq' (((mayB_iff f n).1 h).2 q (by omega))
  · left
    have hl' : ∀ i, i < n → -1 ≤ f i ∧ f i < 96 := fun i hi => by simpa using hl i (by omega) (by omega)
    exact ⟨hl', by unfold mayB; rw [decide_eq_true hl', Bool.and_true]⟩
set_option maxHeartbeats 1000000 in
theorem mayBe_any (a : Option Addr) (n c : Nat) (f : Nat → Int) (w : World) (h : IntsAt w a n f) (hn : n ≤ 9223372036854775807) (hf : ∀ i, i < n → -9223372036854775808 ≤ f i ∧ f i ≤ 9223372036854775807) :
    Calls Try.prog 34 #[.slice a n c] w fun e w' => e = .returned (.bool (mayB f n)) ∧ w' = w := by
  have HI : Hid (IntsAt w a n f) := h
  have HF : Hid (∀ i, i < n → -9223372036854775808 ≤ f i ∧ f i ≤ 9223372036854775807) := hf
  clear h hf
  rcases mayB_first f n with ⟨hl, hA⟩ | ⟨hA, q, hq, hx, hl⟩
  · obtain ⟨B, hB⟩ : ∃ B, decide (n = 21) = B := ⟨_, rfl⟩
    have hBn : decide ((n : Int) = 21) = B := by rw [← hB]; congr 1; apply propext; omega
    have hBe : ((n : Int) == 21) = B := by rw [← hBn]; rfl
    rw [hA, hB]
    have HL : Hid (∀ i, i < n → -1 ≤ f i ∧ f i < 96) := hl
    clear hA hB hl
    go_enter Try.func34, Try.ntmps34
    go_wp2
    go_loopw [4, 7] (fun _ i wr => ∃ k : Nat, k ≤ n ∧ i = .int .i64 k ∧ wr = w) (fun _ i _ => n - (intOf i).toNat)
    case atStart => exact ⟨0, Nat.zero_le _, rfl, rfl⟩
    case round =>
      obtain ⟨k, hk, rfl, hw⟩ := hrel
      obtain rfl := hw.symm
      by_cases hlt : k < n
      · obtain ⟨b, o, rfl, hbl, hc⟩ := HI.out.resolve_left (by omega)
        have x1 := hc k hlt
        obtain ⟨y1, y2⟩ := HL.out k hlt
        obtain ⟨X, hX⟩ : ∃ X, f k = X := ⟨_, rfl⟩
        rw [hX] at x1 y1 y2
        have hb : (k : Int) < (n : Int) := by omega
        have z1 : ¬ X < -1 := by omega
        have z2 : ¬ (96 : Int) ≤ X := by omega
        clear hc hX
        go_wp2
        go_roundw
        case rel => exact ⟨k + 1, by omega, by go_num, trivial⟩
        case measure => simp [intOf]; omega
      · obtain rfl : k = n := by omega
        go_wp2
        go_ret
        exact ⟨rfl, rfl⟩
  · rw [hA]
    have HL : Hid (∀ j, j < q → -1 ≤ f j ∧ f j < 96) := hl
    clear hA hl
    go_enter Try.func34, Try.ntmps34
    go_wp2
    go_loopw [4, 7] (fun _ i wr => ∃ k : Nat, k ≤ q ∧ i = .int .i64 k ∧ wr = w) (fun _ i _ => n - (intOf i).toNat)
    case atStart => exact ⟨0, Nat.zero_le _, rfl, rfl⟩
    case round =>
      obtain ⟨k, hk, rfl, hw⟩ := hrel
      obtain rfl := hw.symm
      obtain ⟨b, o, rfl, hbl, hc⟩ := HI.out.resolve_left (by omega)
      have x1 := hc k (by omega)
      have hb : (k : Int) < (n : Int) := by omega
      clear hc
      by_cases hlt : k < q
      · obtain ⟨y1, y2⟩ := HL.out k hlt
        obtain ⟨X, hX⟩ : ∃ X, f k = X := ⟨_, rfl⟩
        rw [hX] at x1 y1 y2
        have z1 : ¬ X < -1 := by omega
        have z2 : ¬ (96 : Int) ≤ X := by omega
        clear hX
        go_wp2
        go_roundw
        case rel => exact ⟨k + 1, by omega, by go_num, trivial⟩
        case measure => simp [intOf]; omega
      · obtain rfl : k = q := by omega
        obtain ⟨X, hX⟩ : ∃ X, f k = X := ⟨_, rfl⟩
        have hfx := HF.out k hq
        rw [hX] at x1 hx hfx
        clear hX
        by_cases z1 : X < -1
        · clear hx
          go_wp2
          go_ret
          exact ⟨rfl, rfl⟩
        · have z2 : (96 : Int) ≤ X := by omega
          clear hx
          go_wp2
          go_ret
          exact ⟨rfl, rfl⟩

end Go.Proofs.Ytdjnkibnnjobpaa
