/- The base: memory, plan, cards, view, store, image, in one text. -/
import Derived.Test.YtdjnkibnnjobpaaBig
import Derived.Test.YtdjnkibnnjobpaaShS
import Derived.Test.YtdjnkibnnjobpaaWd
import Derived.BigQuiet
import Derived.Deep.QuietTactic

namespace Go.Proofs.Ytdjnkibnnjobpaa
open Go.RowKit Go.Maps Go.ChangeMaps

def rowV (f : Nat → Int) (n : Nat) : List Value := (List.range n).map fun j => Value.int .i64 (f j)
theorem rowV_len (f : Nat → Int) (n : Nat) : (rowV f n).length = n := by simp [rowV]
theorem rowV_at (f : Nat → Int) (n j : Nat) (h : j < n) : (rowV f n)[j]? = some (.int .i64 (f j)) := by simp [rowV, h]
theorem rowV_out (f : Nat → Int) (n j : Nat) (h : ¬ j < n) : (rowV f n)[j]? = none := List.getElem?_eq_none (by rw [rowV_len]; omega)
theorem rowV_ext {l : List Value} {f : Nat → Int} {n : Nat} (hl : l.length = n) (h : ∀ j, j < n → l[j]? = some (.int .i64 (f j))) : l = rowV f n := by
  apply List.ext_getElem?
  intro j
  by_cases hj : j < n
  · rw [h j hj, rowV_at f n j hj]
  · rw [rowV_out f n j hj]; exact List.getElem?_eq_none (by omega)
theorem rowV_one (f : Nat → Int) (n : Nat) : ∀ v ∈ rowV f n, v.oneCell' = true := by
  intro v hv
  obtain ⟨j, _, rfl⟩ := List.mem_map.1 hv
  rfl
theorem rowV_congr {f g : Nat → Int} {n : Nat} (h : ∀ j, j < n → f j = g j) : rowV f n = rowV g n :=
  rowV_ext (rowV_len f n) fun j hj => by rw [rowV_at f n j hj, h j hj]
/-- The block g is a row of n ints, the j-th of them f j. -/
def IRow (w : World) (g n : Nat) (f : Nat → Int) : Prop := w.heap[g]? = some (.cells (rowV f n).toArray 3 (0, 0))
section
variable {w w' : World} {g n : Nat} {f : Nat → Int}
theorem IRow.cell (h : IRow w g n f) (j : Nat) (hj : j < n) : w.cell? ⟨g, j, none⟩ = some (.int .i64 (f j)) := by
  rw [cell_of_row w g j _ _ _ h]
  simpa using rowV_at f n j hj
theorem IRow.frozen (h : IRow w g n f) (j : Nat) : w.frozen? ⟨g, j, none⟩ = false := frozen_of_row w g j _ _ h
theorem IRow.lt (h : IRow w g n f) : g < w.heap.size := (Array.getElem?_eq_some_iff.1 h).1
theorem IRow.of_block (h : IRow w g n f) (hb : w'.heap[g]? = w.heap[g]?) : IRow w' g n f := hb.trans h
theorem IRow.later (h : IRow w g n f) (hb : Below w.heap.size w w') : IRow w' g n f := h.of_block (hb.block g h.lt)
theorem IRow.only {X : List Nat} (h : IRow w g n f) (ho : Only X w w') (hX : g ∉ X) : IRow w' g n f := h.of_block (ho.block g h.lt hX)
theorem IRow.congr {f' : Nat → Int} (h : IRow w g n f) (e : ∀ j, j < n → f j = f' j) : IRow w g n f' := by
  unfold IRow
  rw [← rowV_congr e]
  exact h
theorem set_rowV (f : Nat → Int) (n q : Nat) (v : Int) : (rowV f n).toArray.setIfInBounds q (.int .i64 v) = (rowV (updN f q v) n).toArray := by
  rw [List.setIfInBounds_toArray]
  congr 1
  apply rowV_ext (by rw [List.length_set, rowV_len])
  intro j hj
  rw [List.getElem?_set]
  unfold updN
  by_cases e : q = j
  · subst e
    rw [if_pos rfl, rowV_len, if_pos hj, if_pos rfl]
  · rw [if_neg e, if_neg (fun e' => e e'.symm), rowV_at f n j hj]
theorem IRow.set (h : IRow w g n f) (q : Nat) (v : Int) : IRow (w.setCell ⟨g, q, none⟩ (.int .i64 v)) g n (updN f q v) := by
  show (w.setCell ⟨g, q, none⟩ (.int .i64 v)).heap[g]? = _
  rw [heap_setCell_same w g q _ _ _ h, set_rowV]
theorem IRow.ints (h : IRow w g n f) (o m : Nat) (hm : o + m ≤ n) : IntsAt w (some ⟨g, o, none⟩) m (fun i => f (o + i)) :=
  .inr ⟨g, o, rfl, h.lt, fun i hi => h.cell (o + i) (by omega)⟩
end
theorem zeros_rowV (n : Nat) : List.replicate n (Value.int .i64 0) = rowV (fun _ => 0) n := rowV_ext (by simp) fun j hj => by simp [hj]
theorem made_rowV {w : World} {B g n : Nat} (h : w.ownsRow B 3 1 (.slice (some ⟨g, 0, none⟩) n n) n (madeCells #[Value.int .i64 0] n).toList) : IRow w g n (fun _ => 0) := by
  rcases h.2 with ⟨h', _⟩ | ⟨g', cap, cur, h', _, hg, _, _, hcs, htake⟩
  · simp at h'
  · simp only [Value.slice.injEq, Option.some.injEq, Addr.mk.injEq, and_true, true_and] at h'
    obtain ⟨rfl, rfl⟩ := h'
    have e : cur.toList = cur.toList.take (n * 1) := (List.take_of_length_le (by rw [Array.length_toList, hcs]; omega)).symm
    have e3 : cur = (rowV (fun _ => 0) n).toArray := by
      rw [← Array.toArray_toList (xs := cur), e, htake, toList_madeCells_one, zeros_rowV]
    unfold IRow
    rw [hg, e3]
theorem Try.info3v : (Try.prog.info? 3).map (fun i => (i.zero, i.size, i.bytes)) = some (some (.int .i64 0), 1, 8) := by kernel_rfl
theorem size3v : (Try.prog.info? 3).map (·.size) = some 1 := by kernel_rfl

/-! The small calls. -/
theorem bmissing_no (V : VLay) (S : Vw) (N : Nat) (L : Lay) (M : Mem) (w : World) (h : On w V S N L M) :
    Calls Try.prog 29 #[.pointer (some ⟨V.vb, 0, none⟩)] w fun e w' => e = .returned (.bool false) ∧ Below w.heap.size w w' := by
  have HB : Hid _ := vblock_yes V S N L M 0 w h.view h.mem h.mb (by omega) (by omega)
  clear h
  go_enter Try.func29, Try.ntmps29
  go_wp2_with fail
  refine Calls.mono (Hid.out HB) ?_
  rintro e w1 ⟨rfl, _, hb⟩
  have HB1 : Hid (Below w.heap.size w w1) := hb
  clear hb
  go_wp2
  go_ret
  exact ⟨rfl, HB1.out⟩
theorem refused_no (V : VLay) (S : Vw) (N : Nat) (L : Lay) (M : Mem) (node : Int) (w : World) (h : On w V S N L M) (n0 : 0 ≤ node) (n1 : node < 24) :
    Calls Try.prog 33 #[.pointer (some ⟨V.vb, 0, none⟩), .int .i64 node] w fun e w' => e = .returned (.bool false) ∧ Below w.heap.size w w' := by
  have HC : Hid (∀ w, Calls Try.prog 47 #[.int .i64 node] w fun e w' => e = .returned (.tuple #[.int .i64 (8 + 8 * node), .int .i64 0]) ∧ w' = w) := fun w => card_at node w n0 n1
  have HM : Hid _ := bmissing_no V S N L M w h
  clear h
  go_enter Try.func33, Try.ntmps33
  go_wp2_with (first
    | (go_at_call 47; refine Calls.mono (HC.out _) ?_; rintro e w' ⟨rfl, hw⟩; obtain rfl := hw.symm)
    | (go_at_call 29; refine Calls.mono (Hid.out HM) ?_; rintro e w1 ⟨rfl, hb⟩; have HB1 : Hid (Below w.heap.size w w1) := hb; clear hb)
    | go_in)
  go_ret
  exact ⟨rfl, HB1.out⟩

/-- Are the first n of these holes? -/
def allH (f : Nat → Int) (n : Nat) : Bool := decide (∀ i, i < n → f i = -1)
theorem allH_iff (f : Nat → Int) (n : Nat) : allH f n = true ↔ ∀ i, i < n → f i = -1 := by unfold allH; exact decide_eq_true_iff
theorem allH_congr {f g : Nat → Int} {n : Nat} (h : ∀ i, i < n → f i = g i) : allH f n = allH g n := by
  rw [Bool.eq_iff_iff, allH_iff, allH_iff]
  exact ⟨fun k i hi => (h i hi).symm.trans (k i hi), fun k i hi => (h i hi).trans (k i hi)⟩
theorem allH_first (f : Nat → Int) (n : Nat) : allH f n = true ∨ allH f n = false ∧ ∃ q, q < n ∧ f q ≠ -1 ∧ ∀ j, j < q → f j = -1 := by
  rcases first_or (fun i => !decide (f i = -1)) 0 n with ⟨q, _, hq, hp, hl⟩ | hl
  · right
    have hq' : f q ≠ -1 := by simpa using hp
    refine ⟨?_, q, by omega, hq', fun j hj => by simpa using hl j (by omega) hj⟩
    rw [Bool.eq_false_iff]
    intro h
    exact hq' ((allH_iff f n).1 h q (by omega))
  · left
    exact (allH_iff f n).2 fun i hi => by simpa using hl i (by omega) (by omega)
set_option maxHeartbeats 1000000 in
theorem allHoles_any (a : Option Addr) (n c : Nat) (f : Nat → Int) (w : World) (h : IntsAt w a n f) (hn : n ≤ 9223372036854775807) :
    Calls Try.prog 46 #[.slice a n c] w fun e w' => e = .returned (.bool (allH f n)) ∧ w' = w := by
  have HI : Hid (IntsAt w a n f) := h
  clear h
  rcases allH_first f n with hA | ⟨hA, q, hq, hx, hl⟩
  · rw [hA]
    have HL : Hid (∀ i, i < n → f i = -1) := (allH_iff f n).1 hA
    clear hA
    go_enter Try.func46, Try.ntmps46
    go_wp2
    go_loopw [4, 7] (fun _ i wr => ∃ k : Nat, k ≤ n ∧ i = .int .i64 k ∧ wr = w) (fun _ i _ => n - (intOf i).toNat)
    case atStart => exact ⟨0, Nat.zero_le _, rfl, rfl⟩
    case round =>
      obtain ⟨k, hk, rfl, hw⟩ := hrel
      obtain rfl := hw.symm
      by_cases hlt : k < n
      · obtain ⟨b, o, rfl, hbl, hc⟩ := HI.out.resolve_left (by omega)
        have x1 := hc k hlt
        rw [HL.out k hlt] at x1
        have hb : (k : Int) < (n : Int) := by omega
        clear hc
        go_wp2
        go_roundw
        case rel => exact ⟨k + 1, by omega, by go_num, trivial⟩
        case measure => simp [intOf]; omega
      · obtain rfl : k = n := by omega
        go_wp2
        go_ret
        exact ⟨rfl, rfl⟩
  · rw [hA]
    have HL : Hid (∀ j, j < q → f j = -1) := hl
    clear hA hl
    go_enter Try.func46, Try.ntmps46
    go_wp2
    go_loopw [4, 7] (fun _ i wr => ∃ k : Nat, k ≤ q ∧ i = .int .i64 k ∧ wr = w) (fun _ i _ => n - (intOf i).toNat)
    case atStart => exact ⟨0, Nat.zero_le _, rfl, rfl⟩
    case round =>
      obtain ⟨k, hk, rfl, hw⟩ := hrel
      obtain rfl := hw.symm
      obtain ⟨b, o, rfl, hbl, hc⟩ := HI.out.resolve_left (by omega)
      have x1 := hc k (by omega)
      have hb : (k : Int) < (n : Int) := by omega
      clear hc
      by_cases hlt : k < q
      · rw [HL.out k hlt] at x1
        go_wp2
        go_roundw
        case rel => exact ⟨k + 1, by omega, by go_num, trivial⟩
        case measure => simp [intOf]; omega
      · obtain rfl : k = q := by omega
        obtain ⟨X, hX⟩ : ∃ X, f k = X := ⟨_, rfl⟩
        rw [hX] at x1 hx
        have hne : (X != -1) = true := by simpa using hx
        clear hX
        go_wp2
        go_ret
        exact ⟨rfl, rfl⟩

/-- May a map be? -/
def mayB (f : Nat → Int) (n : Nat) : Bool := decide (n = 21) && decide (∀ i, i < n → -1 ≤ f i ∧ f i < 96)
theorem mayB_iff (f : Nat → Int) (n : Nat) : mayB f n = true ↔ n = 21 ∧ ∀ i, i < n → -1 ≤ f i ∧ f i < 96 := by
  unfold mayB
  rw [Bool.and_eq_true, decide_eq_true_iff, decide_eq_true_iff]
theorem mayB_first (f : Nat → Int) (n : Nat) : (∀ i, i < n → -1 ≤ f i ∧ f i < 96) ∧ mayB f n = decide (n = 21) ∨ mayB f n = false ∧ ∃ q, q < n ∧ ¬ (-1 ≤ f q ∧ f q < 96) ∧ ∀ j, j < q → -1 ≤ f j ∧ f j < 96 := by
  rcases first_or (fun i => !decide (-1 ≤ f i ∧ f i < 96)) 0 n with ⟨q, _, hq, hp, hl⟩ | hl
  · right
    have hq' : ¬ (-1 ≤ f q ∧ f q < 96) := by simp at hp; omega
    refine ⟨?_, q, by omega, hq', fun j hj => by simpa using hl j (by omega) hj⟩
    rw [Bool.eq_false_iff]
    intro h
    exact hq' (((mayB_iff f n).1 h).2 q (by omega))
  · left
    have hl' : ∀ i, i < n → -1 ≤ f i ∧ f i < 96 := fun i hi => by simpa using hl i (by omega) (by omega)
    exact ⟨hl', by unfold mayB; rw [decide_eq_true hl', Bool.and_true]⟩
set_option maxHeartbeats 1000000 in
theorem mayBe_any (a : Option Addr) (n c : Nat) (f : Nat → Int) (w : World) (h : IntsAt w a n f) (hn : n ≤ 9223372036854775807) (hf : ∀ i, i < n → -9223372036854775808 ≤ f i ∧ f i ≤ 9223372036854775807) :
    Calls Try.prog 34 #[.slice a n c] w fun e w' => e = .returned (.bool (mayB f n)) ∧ w' = w := by
  have HI : Hid (IntsAt w a n f) := h
  have HF : Hid (∀ i, i < n → -9223372036854775808 ≤ f i ∧ f i ≤ 9223372036854775807) := hf
  clear h hf
  rcases mayB_first f n with ⟨hl, hA⟩ | ⟨hA, q, hq, hx, hl⟩
  · obtain ⟨B, hB⟩ : ∃ B, decide (n = 21) = B := ⟨_, rfl⟩
    have hBn : decide ((n : Int) = 21) = B := by rw [← hB]; congr 1; apply propext; omega
    have hBe : ((n : Int) == 21) = B := by rw [← hBn]; rfl
    rw [hA, hB]
    have HL : Hid (∀ i, i < n → -1 ≤ f i ∧ f i < 96) := hl
    clear hA hB hl
    go_enter Try.func34, Try.ntmps34
    go_wp2
    go_loopw [4, 7] (fun _ i wr => ∃ k : Nat, k ≤ n ∧ i = .int .i64 k ∧ wr = w) (fun _ i _ => n - (intOf i).toNat)
    case atStart => exact ⟨0, Nat.zero_le _, rfl, rfl⟩
    case round =>
      obtain ⟨k, hk, rfl, hw⟩ := hrel
      obtain rfl := hw.symm
      by_cases hlt : k < n
      · obtain ⟨b, o, rfl, hbl, hc⟩ := HI.out.resolve_left (by omega)
        have x1 := hc k hlt
        obtain ⟨y1, y2⟩ := HL.out k hlt
        obtain ⟨X, hX⟩ : ∃ X, f k = X := ⟨_, rfl⟩
        rw [hX] at x1 y1 y2
        have hb : (k : Int) < (n : Int) := by omega
        have z1 : ¬ X < -1 := by omega
        have z2 : ¬ (96 : Int) ≤ X := by omega
        clear hc hX
        go_wp2
        go_roundw
        case rel => exact ⟨k + 1, by omega, by go_num, trivial⟩
        case measure => simp [intOf]; omega
      · obtain rfl : k = n := by omega
        go_wp2
        go_ret
        exact ⟨rfl, rfl⟩
  · rw [hA]
    have HL : Hid (∀ j, j < q → -1 ≤ f j ∧ f j < 96) := hl
    clear hA hl
    go_enter Try.func34, Try.ntmps34
    go_wp2
    go_loopw [4, 7] (fun _ i wr => ∃ k : Nat, k ≤ q ∧ i = .int .i64 k ∧ wr = w) (fun _ i _ => n - (intOf i).toNat)
    case atStart => exact ⟨0, Nat.zero_le _, rfl, rfl⟩
    case round =>
      obtain ⟨k, hk, rfl, hw⟩ := hrel
      obtain rfl := hw.symm
      obtain ⟨b, o, rfl, hbl, hc⟩ := HI.out.resolve_left (by omega)
      have x1 := hc k (by omega)
      have hb : (k : Int) < (n : Int) := by omega
      clear hc
      by_cases hlt : k < q
      · obtain ⟨y1, y2⟩ := HL.out k hlt
        obtain ⟨X, hX⟩ : ∃ X, f k = X := ⟨_, rfl⟩
        rw [hX] at x1 y1 y2
        have z1 : ¬ X < -1 := by omega
        have z2 : ¬ (96 : Int) ≤ X := by omega
        clear hX
        go_wp2
        go_roundw
        case rel => exact ⟨k + 1, by omega, by go_num, trivial⟩
        case measure => simp [intOf]; omega
      · obtain rfl : k = q := by omega
        obtain ⟨X, hX⟩ : ∃ X, f k = X := ⟨_, rfl⟩
        have hfx := HF.out k hq
        rw [hX] at x1 hx hfx
        clear hX
        by_cases z1 : X < -1
        · clear hx
          go_wp2
          go_ret
          exact ⟨rfl, rfl⟩
        · have z2 : (96 : Int) ≤ X := by omega
          clear hx
          go_wp2
          go_ret
          exact ⟨rfl, rfl⟩

end Go.Proofs.Ytdjnkibnnjobpaa

namespace Go.Proofs.Ytdjnkibnnjobpaa
open Go.RowKit Go.Maps Go.ChangeMaps

/-- The map with the first k of More's words told. -/
def tellTo (f h : Nat → Int) (k : Nat) : Nat → Int := fun i => if 5 ≤ i ∧ i < 5 + k then h (i - 5) - 1 else f i
theorem tellTo_zero (f h : Nat → Int) : tellTo f h 0 = f := by
  funext i
  unfold tellTo
  rw [if_neg (by omega)]
theorem tellTo_succ (f h : Nat → Int) (k : Nat) : updN (tellTo f h k) (5 + k) (h k - 1) = tellTo f h (k + 1) := by
  funext i
  unfold updN tellTo
  by_cases e : i = 5 + k
  · subst e
    rw [if_pos rfl, if_pos (by omega)]
    congr 2
    omega
  · rw [if_neg e]
    by_cases e2 : 5 ≤ i ∧ i < 5 + k
    · rw [if_pos e2, if_pos (by omega)]
    · rw [if_neg e2, if_neg (by omega)]
/-- Words lie in a block from its first cell on. -/
def WAt (w : World) (b n : Nat) (h : Nat → Int) : Prop := b < w.heap.size ∧ ∀ i, i < n → w.cell? ⟨b, i, none⟩ = some (.int .u64 (h i))
theorem WAt.only {w w' : World} {b n : Nat} {h : Nat → Int} {X : List Nat} (hw : WAt w b n h) (ho : Only X w w') (hX : b ∉ X) : WAt w' b n h :=
  ⟨by have := hw.1; have := ho.size; omega, fun i hi => by rw [World.cell?_of_block (w := w) (ho.block b hw.1 hX)]; exact hw.2 i hi⟩
theorem WAt.later {w w' : World} {b n : Nat} {h : Nat → Int} (hw : WAt w b n h) (hb : Below w.heap.size w w') : WAt w' b n h :=
  hw.only (X := []) (Only.of_below hb) (by simp)
theorem wat_of_row {w : World} {base b c n : Nat} {h : Nat → Int} (hr : w.ownsRow base 23 1 (.slice (some ⟨b, 0, none⟩) n c) n ((List.range n).map fun (i : Nat) => Value.int .u64 (h i))) (hn : 0 < n) : WAt w b n h := by
  have h' := hr
  rcases hr.2 with ⟨e, e0⟩ | ⟨g, cap, cur, e, _, hg, _⟩
  · omega
  · cases e
    refine ⟨(Array.getElem?_eq_some_iff.1 hg).1, fun i hi => ?_⟩
    rw [h'.cellAt i (by omega)]
    simp [hi]

set_option maxHeartbeats 2000000 in
theorem tell_any (b g : Nat) (f h : Nat → Int) (w : World) (hg : IRow w g 21 f) (hc : WAt w b 16 h) (hbg : b ≠ g) (hw : ∀ i, i < 16 → 0 ≤ h i ∧ h i ≤ 18446744073709551615) (B : Bool)
    (hB : B = true ↔ (∀ i, i < 16 → h i ≤ 96) ∧ ∃ i, i < 16 ∧ h i ≠ 0) :
    Calls Try.prog 31 #[.slice (some ⟨b, 0, none⟩) 16 16, .slice (some ⟨g, 5, none⟩) 16 16] w fun e w' => e = .returned (.bool B) ∧ (B = true → IRow w' g 21 (tellTo f h 16)) ∧ Only [g] w w' := by
  have HG : Hid (IRow w g 21 f) := hg
  have HC : Hid (WAt w b 16 h) := hc
  have HN : Hid (b ∉ [g]) := by show b ∉ [g]; simp [hbg]
  obtain ⟨q, hq, HL, HQ⟩ : ∃ q : Nat, q ≤ 16 ∧ Hid (∀ j, j < q → 0 ≤ h j ∧ h j ≤ 96) ∧ Hid (q < 16 → 96 < h q ∧ h q ≤ 18446744073709551615) := by
    rcases first_or (fun i => decide (96 < h i)) 0 16 with ⟨q, _, hq, hp, hl⟩ | hl
    · exact ⟨q, by omega, fun j hj => ⟨(hw j (by omega)).1, by have := hl j (by omega) hj; simp at this; exact this⟩, fun _ => ⟨by simpa using hp, (hw q (by omega)).2⟩⟩
    · exact ⟨16, by omega, fun j hj => ⟨(hw j (by omega)).1, by have := hl j (by omega) (by omega); simp at this; exact this⟩, fun hh => absurd hh (Nat.lt_irrefl _)⟩
  have HB : Hid (q < 16 → B = false) := fun hq2 => by
    rw [Bool.eq_false_iff]
    intro hb
    have := (hB.1 hb).1 q hq2
    have := (HQ.out hq2).1
    omega
  have HB2 : Hid (q = 16 → B = !allH (fun i => h i - 1) 16) := fun hq2 => by
    subst hq2
    rw [Bool.eq_iff_iff, hB, Bool.not_eq_true', Bool.eq_false_iff]
    constructor
    · rintro ⟨_, i, hi, hne⟩ ha
      have := (allH_iff _ _).1 ha i hi
      omega
    · intro ha
      refine ⟨fun i hi => (HL.out i hi).2, ?_⟩
      rcases allH_first (fun i => h i - 1) 16 with e | ⟨_, i, hi, hne, _⟩
      · exact absurd e ha
      · exact ⟨i, hi, fun e => hne (by rw [e]; rfl)⟩
  clear hg hc hbg hB hw
  go_enter Try.func31, Try.ntmps31
  go_wp2
  go_loopw [5, 6, 9] (fun _ _ i wr => ∃ k : Nat, k ≤ q ∧ i = .int .i64 k ∧ Hid (IRow wr g 21 (tellTo f h k)) ∧ Hid (Only [g] w wr)) (fun _ _ i _ => 16 - (intOf i).toNat)
  case atStart => exact ⟨0, Nat.zero_le _, rfl, by show IRow _ _ _ _; rw [tellTo_zero]; exact HG.out, Only.refl _ _⟩
  case round =>
    obtain ⟨k, hk, rfl, HR, HO⟩ := hrel
    by_cases hlt : k < 16
    · have x1 := (HC.out.only HO.out HN.out).2 k hlt
      have x2 := HR.out.cell (5 + k) (by omega)
      have x3 := HR.out.frozen (5 + k)
      have hb : (k : Int) < 16 := by omega
      by_cases hkq : k < q
      · obtain ⟨y1, y2⟩ := HL.out k hkq
        have HS : Hid (updN (tellTo f h k) (5 + k) (h k - 1) = tellTo f h (k + 1)) := tellTo_succ f h k
        obtain ⟨X, hX⟩ : ∃ X, h k = X := ⟨_, rfl⟩
        obtain ⟨Y, hY⟩ : ∃ Y, tellTo f h k (5 + k) = Y := ⟨_, rfl⟩
        rw [hX] at x1 y1 y2 HS
        rw [hY] at x2
        clear hX hY
        have z1 : ¬ (96 : Int) < X := by omega
        go_wp2
        go_roundw
        case rel => exact ⟨k + 1, by omega, by go_num, by show IRow _ _ _ _; rw [← HS.out]; exact HR.out.set _ _, HO.out.setCell (p := ⟨g, 5 + k, none⟩) (by simp) _⟩
        case measure => simp [intOf]; omega
      · obtain rfl : k = q := by omega
        obtain ⟨y1, y2⟩ := HQ.out hlt
        have hBf := HB.out hlt
        subst hBf
        obtain ⟨X, hX⟩ : ∃ X, h k = X := ⟨_, rfl⟩
        rw [hX] at x1 y1 y2
        clear hX
        go_wp2
        go_ret
        exact ⟨rfl, HO.out⟩
    · obtain ⟨Q, hQ⟩ : ∃ Q : Nat, Q = 16 := ⟨_, rfl⟩
      have hk16 : k = 16 := by omega
      have hb : ¬ (k : Int) < 16 := by omega
      have hBt := HB2.out (by omega)
      have HR16 : Hid (IRow wr g 21 (tellTo f h 16)) := by rw [hk16] at HR; exact HR
      have HA : Hid (Calls Try.prog 46 #[.slice (some ⟨g, 5, none⟩) 16 16] wr fun e w' => e = .returned (.bool (allH (fun i => h i - 1) 16)) ∧ w' = wr) := by
        have h1 := allHoles_any (some ⟨g, 5, none⟩) 16 16 (fun i => tellTo f h 16 (5 + i)) wr (HR16.out.ints 5 16 (by omega)) (by omega)
        have e : allH (fun i => tellTo f h 16 (5 + i)) 16 = allH (fun i => h i - 1) 16 := allH_congr fun i hi => by
          unfold tellTo
          rw [if_pos (by omega)]
          congr 2
          omega
        rw [e] at h1
        exact h1
      obtain ⟨A, hA⟩ : ∃ A, allH (fun i => h i - 1) 16 = A := ⟨_, rfl⟩
      rw [hA] at HA hBt
      subst hBt
      clear hA hk16 hQ
      go_wp2_with (first
        | (go_at_call 46; refine Calls.mono (Hid.out HA) ?_; rintro e w' ⟨rfl, hw⟩; obtain rfl := hw.symm)
        | go_in)
      go_ret
      exact ⟨rfl, fun _ => HR16.out, HO.out⟩

end Go.Proofs.Ytdjnkibnnjobpaa

namespace Go.Proofs.Ytdjnkibnnjobpaa
open Go.RowKit Go.Maps Go.ChangeMaps

def dirF (d0 d1 d2 d3 d4 : Int) : Nat → Int := fun i => [d0, d1, d2, d3, d4].getD i 0
/-- A file's map: of its card's places, and of More's block over these words. -/
def mapF (W : Int → Int) (d0 d1 d2 d3 d4 m : Int) : Nat → Int := fun i => if i < 5 then dirF d0 d1 d2 d3 d4 i else if m = -1 then -1 else W (1288 + 16 * m + ((i - 5 : Nat) : Int)) - 1
/-- A copy of ints into a block, from wherever they lie. -/
theorem run_copyV (w : World) (g off d dc b o n c m : Nat) (t : TypeId) (cur : List Value) (f : Nat → Int) (hR : w.heap[g]? = some (.cells cur.toArray t (0, 0))) (hc : ∀ i, i < m → w.cell? ⟨b, o + i, none⟩ = some (.int .i64 (f i))) (hm : m = Nat.min n d) (hfit : off + m ≤ cur.length) :
    (Builtin.copy_ #[27, 27] 3 #[.slice (some ⟨g, off, none⟩) d dc, .slice (some ⟨b, o, none⟩) n c]).run Try.prog w = .ok (.int .i64 m) (w.setRow g (cur.take off ++ rowV f m ++ cur.drop (off + m)).toArray) := by
  have hr := run_copy_row (P := Try.prog) w 27 27 3 3 g off d dc ⟨b, o, none⟩ n c cur.toArray t (rowV f m) Try.underlying27 size3v hR (by rw [rowV_len]; exact hm) ?src (by rw [rowV_len, List.size_toArray]; exact hfit) (rowV_one _ _)
  case src =>
    intro j v hj
    by_cases hjm : j < m
    · rw [rowV_at f m j hjm] at hj
      cases hj
      rw [Addr.add_lit]
      exact hc j hjm
    · rw [rowV_out f m j hjm] at hj
      cases hj
  rw [rowV_len] at hr
  exact hr
theorem only_setRow (w : World) (g : Nat) (cs : Array Value) : Only [g] w (w.setRow g cs) := ⟨rfl, rfl, rfl, by simp [World.setRow], fun k _ hk => setRow_other w g k _ (by simpa using hk)⟩
theorem copy_dir (d0 d1 d2 d3 d4 : Int) (f : Nat → Int) : (rowV f 21).take 0 ++ rowV (dirF d0 d1 d2 d3 d4) 5 ++ (rowV f 21).drop (0 + 5) = rowV (fun i => if i < 5 then dirF d0 d1 d2 d3 d4 i else f i) 21 := by
  apply rowV_ext
  · simp [rowV_len]
  · intro j hj
    rw [List.take_zero, List.nil_append]
    by_cases h : j < 5
    · rw [List.getElem?_append_left (by rw [rowV_len]; exact h), rowV_at _ _ _ h, if_pos h]
    · rw [List.getElem?_append_right (by rw [rowV_len]; omega), rowV_len, List.getElem?_drop, if_neg h, show 0 + 5 + (j - 5) = j by omega, rowV_at _ _ _ hj]
/-- The card's places, then holes up to k, then 0. -/
def fillTo (d : Nat → Int) (k : Nat) : Nat → Int := fun i => if i < 5 then d i else if i < k then -1 else 0
theorem fillTo_succ (d : Nat → Int) (k : Nat) (hk : 5 ≤ k) : updN (fillTo d k) k (-1) = fillTo d (k + 1) := by
  funext i
  unfold updN fillTo
  by_cases e : i = k
  · subst e
    rw [if_pos rfl, if_neg (by omega), if_pos (by omega)]
  · rw [if_neg e]
    by_cases h : i < 5
    · rw [if_pos h, if_pos h]
    · rw [if_neg h, if_neg h]
      by_cases h2 : i < k
      · rw [if_pos h2, if_pos (by omega)]
      · rw [if_neg h2, if_neg (by omega)]
/-- What Map answers. -/
def MapTo (w w' : World) (e : Ending) (F : Nat → Int) (B : Bool) : Prop :=
  (B = true ∧ ∃ g, w.heap.size ≤ g ∧ e = .returned (.tuple #[.slice (some ⟨g, 0, none⟩) 21 21, .int .i64 0]) ∧ IRow w' g 21 F) ∨ B = false ∧ e = .returned (.tuple #[.slice none 0 0, .int .i64 15])

set_option maxHeartbeats 4000000 in
set_option maxRecDepth 100000 in
theorem map_any (V : VLay) (S : Vw) (N : Nat) (L : Lay) (M : Mem) (k l s v d0 d1 d2 d3 d4 m : Int) (w : World) (h : On w V S N L M) (m0 : -1 ≤ m) (m1 : m < 96) (B : Bool)
    (hB : B = true ↔ m = -1 ∨ (∀ i : Nat, i < 16 → S.word M (1288 + 16 * m + (i : Int)) ≤ 96) ∧ ∃ i : Nat, i < 16 ∧ S.word M (1288 + 16 * m + (i : Int)) ≠ 0) :
    Calls Try.prog 11 #[.pointer (some ⟨V.vb, 0, none⟩), .agg #[.int .i64 k, .int .i64 l, .int .i64 s, .int .u64 v, .int .i64 d0, .int .i64 d1, .int .i64 d2, .int .i64 d3, .int .i64 d4, .int .i64 m]] w fun e w' => MapTo w w' e (mapF (S.word M) d0 d1 d2 d3 d4 m) B ∧ Below w.heap.size w w' := by
  obtain ⟨i0, hi, hz0, hz1, hz2⟩ := info_parts Try.info3v
  have H : Hid (On w V S N L M) := h
  have HBB : Hid (B = true ↔ m = -1 ∨ (∀ i : Nat, i < 16 → S.word M (1288 + 16 * m + (i : Int)) ≤ 96) ∧ ∃ i : Nat, i < 16 ∧ S.word M (1288 + 16 * m + (i : Int)) ≠ 0) := hB
  clear h hB
  go_enter Try.func11, Try.ntmps11
  go_wp2_with fail
  obtain ⟨W, hW, HS, HE, HC⟩ := Cd.new_card w k l s v d0 d1 d2 d3 d4 m
  rw [hW]
  clear hW
  have HW : Hid (On W V S N L M) := H.out.later (HE.out W (Below.refl _ _))
  refine (bmissing_no V S N L M W HW.out).mono ?_
  rintro e w1 ⟨rfl, hb1⟩
  have HB1 : Hid (Below W.heap.size W w1) := hb1
  clear hb1
  go_wp2_with (at_make; refine wpList_make_full _ rfl _ _ 27 rfl w1.heap.size 3 i0 (.int .i64 0) 1 Try.underlying27 hi hz0 hz1 _ _ _ _ 21 rfl rfl rfl rfl ?b2 ?b3 (Nat.le_refl _) ?_)
  case b2 => rw [hz2]; omega
  case b3 => unfold maxLen; omega
  intro w2 hown2 hgrow2
  obtain ⟨G, hG⟩ : ∃ G, w1.heap.size = G := ⟨_, rfl⟩
  have HGE : Hid (w1.heap.size = G) := hG
  have HB2 : Hid (Below W.heap.size W w2) := HB1.out.grown hgrow2 HB1.out.size (fun k h => by cases h)
  rw [hG] at hown2
  have hR2 : IRow w2 G 21 (fun _ => 0) := made_rowV hown2
  have hrun := run_copyV w2 G 0 21 21 w.heap.size 4 5 5 5 3 (rowV (fun _ => 0) 21) (dirF d0 d1 d2 d3 d4) hR2 ?cc (by decide) (by simp [rowV_len])
  case cc =>
    obtain ⟨c0, c1, c2, c3, c4, c5, c6, c7, c8, c9⟩ := HC.out w2 HB2.out
    intro i hi
    match i, hi with
    | 0, _ => exact c4
    | 1, _ => exact c5
    | 2, _ => exact c6
    | 3, _ => exact c7
    | 4, _ => exact c8
  rw [copy_dir] at hrun
  obtain ⟨w3, hw3⟩ : ∃ w3, w2.setRow G (rowV (fun i => if i < 5 then dirF d0 d1 d2 d3 d4 i else (fun _ => 0) i) 21).toArray = w3 := ⟨_, rfl⟩
  have HR3 : Hid (IRow w3 G 21 (fillTo (dirF d0 d1 d2 d3 d4) 5)) := by
    have : IRow w3 G 21 (fun i => if i < 5 then dirF d0 d1 d2 d3 d4 i else (fun _ => 0) i) := by rw [← hw3]; exact setRow_heap w2 G _ _ _ _ hR2
    refine this.congr fun j _ => ?_
    unfold fillTo
    by_cases hj : j < 5
    · rw [if_pos hj, if_pos hj]
    · rw [if_neg hj, if_neg hj, if_neg hj]
  have HGW : Hid (W.heap.size ≤ G) := by rw [← hG]; exact HB1.out.size
  have HB3 : Hid (Below W.heap.size W w3) := HB2.out.trans (by rw [← hw3]; exact (only_setRow w2 G _).below HB2.out.size (by simp; exact HGW.out))
  rw [hw3] at hrun
  clear hw3 hR2 hown2 hgrow2 hG
  rw [HGE.out]
  go_wp2
  go_loopw [7] (fun i wr => ∃ j : Nat, 5 ≤ j ∧ j ≤ 21 ∧ i = .int .i64 j ∧ Hid (IRow wr G 21 (fillTo (dirF d0 d1 d2 d3 d4) j)) ∧ Hid (Below W.heap.size W wr)) (fun i _ => 21 - (intOf i).toNat)
  case atStart => exact ⟨5, by omega, by omega, rfl, HR3, HB3⟩
  case round =>
    obtain ⟨j, hj5, hj, rfl, HR, HB⟩ := hrel
    by_cases hlt : j < 21
    · have x2 := HR.out.cell j hlt
      have x3 := HR.out.frozen j
      have hb : (j : Int) < 21 := by omega
      have HSu : Hid (updN (fillTo (dirF d0 d1 d2 d3 d4) j) j (-1) = fillTo (dirF d0 d1 d2 d3 d4) (j + 1)) := fillTo_succ _ j hj5
      obtain ⟨Y, hY⟩ : ∃ Y, fillTo (dirF d0 d1 d2 d3 d4) j j = Y := ⟨_, rfl⟩
      rw [hY] at x2
      clear hY
      go_wp2
      go_roundw
      case rel => exact ⟨j + 1, by omega, by omega, by go_num, by show IRow _ _ _ _; rw [← HSu.out]; exact HR.out.set _ _, HB.out.setCell (p := ⟨G, j, none⟩) HGW.out _⟩
      case measure => simp [intOf]; omega
    · have hb : ¬ (j : Int) < 21 := by omega
      have hj21 : j = 21 := by omega
      have HR21 : Hid (IRow wr G 21 (fillTo (dirF d0 d1 d2 d3 d4) 21)) := by rw [hj21] at HR; exact HR
      have HWR : Hid (On wr V S N L M) := HW.out.later HB.out
      obtain ⟨c0, c1, c2, c3, c4, c5, c6, c7, c8, c9⟩ := HC.out wr HB.out
      clear c0 c1 c2 c3 c4 c5 c6 c7 c8 hj21 HR
      by_cases hm : m = -1
      · have hBt : B = true := HBB.out.2 (.inl hm)
        subst hm hBt
        go_wp2
        go_ret2
        refine ⟨.inl ⟨rfl, G, by have := HS.out; have := HGW.out; omega, rfl, HR21.out.congr fun i hi => ?_⟩, HE.out _ HB.out⟩
        unfold fillTo mapF
        by_cases h5 : i < 5
        · rw [if_pos h5, if_pos h5]
        · rw [if_neg h5, if_neg h5, if_pos hi, if_pos rfl]
      · have hme : (m == -1) = false := by simpa using hm
        have HBL : Hid _ := vblock_yes V S N L M m wr HWR.out.view HWR.out.mem HWR.out.mb (by omega) m1
        have HM : Hid (¬ m = -1) := hm
        clear hm
        go_wp2_with fail
        refine Calls.mono (Hid.out HBL) ?_
        rintro e w4 ⟨rfl, hrow, hb4⟩
        have HB4 : Hid (Below wr.heap.size wr w4) := hb4
        have HR4 : Hid (IRow w4 G 21 (fillTo (dirF d0 d1 d2 d3 d4) 21)) := HR21.out.later hb4
        have HWA : Hid (WAt w4 wr.heap.size 16 (fun i => S.word M (1288 + 16 * m + (i : Int)))) := wat_of_row hrow (by omega)
        have HNE : Hid (wr.heap.size ≠ G) := by show _ ≠ _; have := HR21.out.lt; omega
        have HT : Hid (Calls Try.prog 31 #[.slice (some ⟨wr.heap.size, 0, none⟩) 16 16, .slice (some ⟨G, 5, none⟩) 16 16] w4 fun e w' => e = .returned (.bool B) ∧ (B = true → IRow w' G 21 (tellTo (fillTo (dirF d0 d1 d2 d3 d4) 21) (fun i => S.word M (1288 + 16 * m + (i : Int))) 16)) ∧ Only [G] w4 w') :=
          tell_any wr.heap.size G _ _ w4 HR4.out HWA.out HNE.out (fun i _ => HWR.out.ok _) B ⟨fun hb => (HBB.out.1 hb).elim (fun e => absurd e HM.out) id, fun hb => HBB.out.2 (.inr hb)⟩
        clear hrow hb4
        go_wp2_with fail
        refine Calls.mono (Hid.out HT) ?_
        rintro e w5 ⟨rfl, hR5, hO5⟩
        have HR5 : Hid (B = true → IRow w5 G 21 (tellTo (fillTo (dirF d0 d1 d2 d3 d4) 21) (fun i => S.word M (1288 + 16 * m + (i : Int))) 16)) := hR5
        have HB5 : Hid (Below w.heap.size w w5) := HE.out _ ((HB.out.trans (HB4.out.mono HB.out.size)).trans (hO5.below (Nat.le_trans HB.out.size HB4.out.size) (by simp; exact HGW.out)))
        clear hR5 hO5
        cases B with
        | true =>
          go_wp2
          go_ret2
          refine ⟨.inl ⟨rfl, G, by have := HS.out; have := HGW.out; omega, rfl, (HR5.out trivial).congr fun i hi => ?_⟩, HB5.out⟩
          unfold tellTo fillTo mapF
          by_cases h5 : i < 5
          · rw [if_neg (by omega), if_pos h5, if_pos h5]
          · rw [if_pos (by omega), if_neg h5, if_neg HM.out]
        | false =>
          go_wp2
          go_ret2
          exact ⟨.inr ⟨rfl, rfl⟩, HB5.out⟩

end Go.Proofs.Ytdjnkibnnjobpaa
