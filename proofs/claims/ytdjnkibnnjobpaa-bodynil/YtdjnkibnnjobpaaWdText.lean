/- Contracts of Text and Untext (layer 1). -/
import Derived.Test.YtdjnkibnnjobpaaProg
import Derived.Test.YtdjnkibnnjobpaaWdMath
import Derived.WalkKit
import Derived.Deep.RegionWith
import Derived.Laws.IdiomStrings
namespace Go.Proofs.Ytdjnkibnnjobpaa.Wd
open Go.RowKit

theorem ret_int {k : IntKind} {a b : Int} (h : a = b) : Ending.returned (.int k a) = .returned (.int k b) := by rw [h]
theorem ret_pair {k l : IntKind} {a b : Int} {c : Int} (h : a = b) : Ending.returned (.tuple #[.int k a, .int l c]) = .returned (.tuple #[.int k b, .int l c]) := by rw [h]

theorem place_any (i : Int) (w : World) (h0 : 0 ≤ i) (h1 : i ≤ 9223372036854775807) :
    Calls Try.prog 66 #[.int .i64 i] w fun e w' => e = .returned (.int .u64 (i % 8 * 8)) ∧ w' = w := by
  go_enter Try.func66, Try.ntmps66
  go_wp2
  go_ret
  exact ⟨rfl, rfl⟩

/-- No field: the place is below 0, or the width below 1, or they reach beyond 64. -/
structure NoField (a n : Int) : Prop where
  lo : -9223372036854775808 ≤ a
  hi : a ≤ 9223372036854775807
  no : a < 0 ∨ n < 1 ∨ 64 < a + n

theorem Try.info22 : (Try.prog.info? 23).map (fun i => (i.zero, i.size, i.bytes)) = some (some (.int .u64 0), 1, 8) := by kernel_rfl

theorem made_row (n : Nat) (b : Nat → Nat) : (madeCells #[Value.int .u64 0] n).toList = rowOf (tw b 0) n := by
  rw [toList_madeCells_one]; exact rowOf_zero n _ fun _ => rfl

set_option maxHeartbeats 1600000 in
set_option maxRecDepth 100000 in
theorem text_yes (s : ByteArray) (n : Nat) (w : World) (hn : n ≤ 64) (hs : s.size ≤ 8 * n) :
    Calls Try.prog 68 #[.string s, .int .i64 n] w fun e w' => e = .returned (.tuple #[.slice (some ⟨w.heap.size, 0, none⟩) n n, .int .i64 0]) ∧
      w'.ownsRow w.heap.size 23 1 (.slice (some ⟨w.heap.size, 0, none⟩) n n) n (rowOf (tw (bAt s) s.size) n) ∧ Below w.heap.size w w' := by
  obtain ⟨i0, hi, hz0, hz1, hz2⟩ := info_parts Try.info22
  go_enter Try.func68, Try.ntmps68
  go_wp2_with (at_make; refine wpList_make_full _ rfl _ _ 30 rfl w.heap.size 23 i0 (.int .u64 0) 1 Try.underlying30 hi hz0 hz1 _ _ _ _ n rfl rfl rfl rfl ?b2 ?b3 (Nat.le_refl _) ?_)
  case b2 => rw [hz2]; omega
  case b3 => unfold maxLen; omega
  intro w0 hown0 hgrow0
  go_wp2
  go_loopw [23] (fun i wr => ∃ k : Nat, k ≤ s.size ∧ i = .int .i64 k ∧ wr.ownsRow w.heap.size 23 1 (.slice (some ⟨w.heap.size, 0, none⟩) n n) n (rowOf (tw (bAt s) k) n) ∧ Below w.heap.size w wr) (fun i _ => s.size - (intOf i).toNat)
  case atStart => exact ⟨0, Nat.zero_le _, rfl, by rw [← made_row]; exact hown0, (Below.refl _ _).grown hgrow0 (Nat.le_refl _) (fun k h => by cases h)⟩
  case round =>
    obtain ⟨k, hk, rfl, hown, hnx⟩ := hrel
    by_cases hlt : k < s.size
    · obtain ⟨q, hq⟩ : ∃ q, q = k / 8 := ⟨_, rfl⟩
      have hk8 : q < n := by omega
      have hcell : wr.cell? ⟨w.heap.size, q, none⟩ = some (.int .u64 (tw (bAt s) k q : Nat)) := by rw [hown.cellAt _ (by omega), rowOf_at _ _ _ hk8]
      have hfz : wr.frozen? ⟨w.heap.size, q, none⟩ = false := hown.frozenAt _
      have hb2 : (k : Int) < (s.size : Int) := by omega
      have hb1 : (q : Int) < (n : Int) := by omega
      have hwq : IntKind.i64.wrap ((k : Int) / 8) = (q : Int) := by simp only [IntKind.wrap_i64]; omega
      have HS : Hid (bits .or .u64 ((tw (bAt s) k q : Nat) : Int) (IntKind.u64.wrap (IntKind.u64.wrap ((s[k].toNat : Nat) : Int) * 2 ^ (k % 8 * 8))) = ((tw (bAt s) (k + 1) q : Nat) : Int)) := text_step s k q hlt hq
      have HR : Hid ((rowOf (tw (bAt s) k) n).set q (.int .u64 ((tw (bAt s) (k + 1) q : Nat) : Int)) = rowOf (tw (bAt s) (k + 1)) n) := text_rows (bAt s) k n q hq
      clear hq
      go_wp2
      go_region_with (go_at_call 66; refine (place_any _ _ (by omega) (by omega)).mono ?_; rintro e w' ⟨rfl, rfl⟩)
      all_goals
        go_wp2
        go_roundw
        case rel => exact ⟨k + 1, by omega, by go_num, by rw [HS.out, ← HR.out]; exact (hown.stored q _).1.drew, by exact (hnx.setCell (Nat.le_refl _) _).drew⟩
        case measure => simp [intOf]; omega
    · have e : k = s.size := by omega
      subst e
      go_wp2
      go_ret2
      exact ⟨rfl, hown, hnx⟩

theorem text_arg (s : ByteArray) (n : Int) (w : World) (h : n < 0 ∨ 64 < n) :
    Calls Try.prog 68 #[.string s, .int .i64 n] w fun e w' => e = .returned (.tuple #[.slice none 0 0, .int .i64 1]) ∧ w' = w := by
  rcases h with h | h
  · go_enter Try.func68, Try.ntmps68
    go_wp2
    go_ret2
    exact ⟨rfl, rfl⟩
  · have h' : ¬ n < 0 := by omega
    go_enter Try.func68, Try.ntmps68
    go_wp2
    go_ret2
    exact ⟨rfl, rfl⟩

theorem text_range (s : ByteArray) (n : Nat) (w : World) (hn : n ≤ 64) (hs : 8 * n < s.size) :
    Calls Try.prog 68 #[.string s, .int .i64 n] w fun e w' => e = .returned (.tuple #[.slice none 0 0, .int .i64 2]) ∧ w' = w := by
  go_enter Try.func68, Try.ntmps68
  go_wp2
  go_ret2
  exact ⟨rfl, rfl⟩


/-- The byte i of the words g. -/
def byteF (g : Nat → Nat) (i : Nat) : Nat := getN (g (i / 8)) (i % 8 * 8) 8
theorem byteF_lt (g : Nat → Nat) (i : Nat) : byteF g i < 256 := getN_lt _ _ 8
def listB (f : Nat → Nat) (n : Nat) : List UInt8 := (List.range n).map fun i => UInt8.ofNat (f i)
def mkB (f : Nat → Nat) (n : Nat) : ByteArray := ⟨(listB f n).toArray⟩
def part (f : Nat → Nat) (k i : Nat) : Nat := if i < k then f i else 0
def rowB (f : Nat → Nat) (n : Nat) : List Value := (List.range n).map fun j => Value.int .u8 (f j : Nat)

theorem rowB_len (f : Nat → Nat) (n : Nat) : (rowB f n).length = n := by simp [rowB]
theorem rowB_at (f : Nat → Nat) (n j : Nat) (h : j < n) : (rowB f n)[j]? = some (.int .u8 (f j : Nat)) := by simp [rowB, h]
theorem rowB_set (f : Nat → Nat) (n k : Nat) : (rowB (part f k) n).set k (.int .u8 (f k : Nat)) = rowB (part f (k + 1)) n := by
  apply List.ext_getElem?
  intro j
  rw [List.getElem?_set]
  by_cases hj : j < n
  · by_cases hq : k = j
    · subst hq
      have e : part f (k + 1) k = f k := by unfold part; rw [if_pos (by omega)]
      rw [rowB_at (part f (k + 1)) n _ hj, if_pos rfl, rowB_len, if_pos hj, e]
    · have e : part f (k + 1) j = part f k j := by
        unfold part
        by_cases h : j < k
        · rw [if_pos (by omega), if_pos h]
        · rw [if_neg (by omega), if_neg h]
      rw [if_neg hq, rowB_at _ n j hj, rowB_at _ n j hj, e]
  · have e1 : (rowB (part f k) n)[j]? = none := List.getElem?_eq_none (by rw [rowB_len]; omega)
    have e2 : (rowB (part f (k + 1)) n)[j]? = none := List.getElem?_eq_none (by rw [rowB_len]; omega)
    rw [e1, e2, rowB_len]
    by_cases hq : k = j
    · rw [if_pos hq, if_neg (by omega)]
    · rw [if_neg hq]
theorem made_bytes (n : Nat) (f : Nat → Nat) : (madeCells #[Value.int .u8 0] n).toList = rowB (part f 0) n := by
  rw [toList_madeCells_one]
  apply List.ext_getElem?
  intro j
  by_cases hj : j < n
  · have e : part f 0 j = 0 := by unfold part; rw [if_neg (by omega)]
    rw [rowB_at _ n j hj, e]; simp [hj]
  · rw [List.getElem?_eq_none (by simp; omega), List.getElem?_eq_none (by rw [rowB_len]; omega)]

theorem listB_len (f : Nat → Nat) (n : Nat) : (listB f n).length = n := by simp [listB]
theorem listB_at (f : Nat → Nat) (hf : ∀ i, f i < 256) (n j : Nat) (h : j < (listB f n).length) : ((listB f n)[j]).toNat = f j := by
  simp [listB]
  exact hf j

theorem byte_step (g : Nat → Nat) (k q : Nat) (hq : q = k / 8) :
    ((g q : Nat) : Int) / 2 ^ (k % 8 * 8) % 256 = ((byteF g k : Nat) : Int) := by
  subst hq
  unfold byteF getN
  have e : (((g (k / 8) : Nat) : Int) / 2 ^ (k % 8 * 8)) = ((g (k / 8) / 2 ^ (k % 8 * 8) : Nat) : Int) := by simp
  rw [e]
  omega

theorem Try.info5 : (Try.prog.info? 5).map (fun i => (i.zero, i.size, i.bytes)) = some (some (.int .u8 0), 1, 1) := by kernel_rfl

/-- The bytes of an own row, as a text. -/
theorem row_text {w : World} {base B n cap : Nat} {f : Nat → Nat} (hf : ∀ i, f i < 256) (hown : w.ownsRow base 5 1 (.slice (some ⟨B, 0, none⟩) n cap) n (rowB (part f n) n)) :
    (convert 82 9 (.slice (some ⟨B, 0, none⟩) n cap)).run Try.prog w = .ok (.string (mkB f n)) w := by
  have h := run_convert_bytes_back (P := Try.prog) w 82 9 5 ⟨B, 0, none⟩ cap (listB f n) Try.underlying82 Try.underlying5 Try.underlying9 (fun j hj => by
    rw [listB_len] at hj
    have e : part f n j = f j := by unfold part; rw [if_pos hj]
    have ea : (⟨B, 0, none⟩ : Addr).add j = ⟨B, j, none⟩ := by simp [Addr.add]; intro h; exact h.symm
    rw [ea, hown.cellAt j (by omega), rowB_at _ _ _ hj, e, listB_at f hf])
  rw [listB_len] at h
  exact h

set_option maxHeartbeats 1600000 in
set_option maxRecDepth 100000 in
theorem untext_yes (b off len cap : Nat) (g : Nat → Nat) (n : Nat) (w : World) (hn : n ≤ 8 * len) (hlen : len * 8 ≤ 140737488351232) (hb : b < w.heap.size) (hg : ∀ j, g j < 2 ^ 64)
    (hc : ∀ j, j < len → w.cell? ⟨b, off + j, none⟩ = some (.int .u64 (g j : Nat))) :
    Calls Try.prog 52 #[.slice (some ⟨b, off, none⟩) len cap, .int .i64 n] w fun e w' => e = .returned (.tuple #[.string (mkB (byteF g) n), .int .i64 0]) ∧ Below w.heap.size w w' := by
  obtain ⟨i0, hi, hz0, hz1, hz2⟩ := info_parts Try.info5
  go_enter Try.func52, Try.ntmps52
  go_wp2_with (at_make; refine wpList_make_full _ rfl _ _ 82 rfl w.heap.size 5 i0 (.int .u8 0) 1 Try.underlying82 hi hz0 hz1 _ _ _ _ n rfl rfl rfl rfl ?b2 ?b3 (Nat.le_refl _) ?_)
  case b2 => rw [hz2]; omega
  case b3 => unfold maxLen; omega
  intro w0 hown0 hgrow0
  go_wp2
  go_loopw [21] (fun i wr => ∃ k : Nat, k ≤ n ∧ i = .int .i64 k ∧ wr.ownsRow w.heap.size 5 1 (.slice (some ⟨w.heap.size, 0, none⟩) n n) n (rowB (part (byteF g) k) n) ∧ Below w.heap.size w wr) (fun i _ => n - (intOf i).toNat)
  case atStart => exact ⟨0, Nat.zero_le _, rfl, by rw [← made_bytes]; exact hown0, (Below.refl _ _).grown hgrow0 (Nat.le_refl _) (fun k h => by cases h)⟩
  case round =>
    obtain ⟨k, hk, rfl, hown, hnx⟩ := hrel
    by_cases hlt : k < n
    · obtain ⟨q, hq⟩ : ∃ q, q = k / 8 := ⟨_, rfl⟩
      have hk8 : q < len := by omega
      have hcell : wr.cell? ⟨b, off + q, none⟩ = some (.int .u64 (g q : Nat)) := (hnx.cell (by exact hb)).trans (hc q hk8)
      have hcell2 : wr.cell? ⟨w.heap.size, k, none⟩ = some (.int .u8 (part (byteF g) k k : Nat)) := by rw [hown.cellAt _ (by omega), rowB_at _ _ _ hlt]
      have hfz : wr.frozen? ⟨w.heap.size, k, none⟩ = false := hown.frozenAt _
      have hb2 : (k : Int) < (n : Int) := by omega
      have hb1 : (q : Int) < (len : Int) := by omega
      have hgq : ((g q : Nat) : Int) ≤ 18446744073709551615 := by have := hg q; omega
      have hwq : IntKind.i64.wrap ((k : Int) / 8) = (q : Int) := by simp only [IntKind.wrap_i64]; omega
      have HS : Hid _ := byte_step g k q hq
      have HR : Hid _ := rowB_set (byteF g) n k
      clear hq
      go_wp2
      go_region_with (go_at_call 66; refine (place_any _ _ (by omega) (by omega)).mono ?_; rintro e w' ⟨rfl, rfl⟩)
      all_goals
        go_wp2
        go_roundw
        case rel => exact ⟨k + 1, by omega, by go_num, by rw [HS.out, ← HR.out]; exact (hown.stored k _).1.drew, by exact (hnx.setCell (Nat.le_refl _) _).drew⟩
        case measure => simp [intOf]; omega
    · have e : k = n := by omega
      subst e
      have ht := row_text (byteF_lt g) hown
      go_wp2
      go_ret2
      exact ⟨rfl, hnx⟩

set_option maxHeartbeats 400000 in
theorem untext_zero (ao : Option Addr) (cap : Nat) (g : Nat → Nat) (w : World) :
    Calls Try.prog 52 #[.slice ao 0 cap, .int .i64 0] w fun e w' => e = .returned (.tuple #[.string (mkB (byteF g) 0), .int .i64 0]) ∧ Below w.heap.size w w' := by
  obtain ⟨i0, hi, hz0, hz1, hz2⟩ := info_parts Try.info5
  go_enter Try.func52, Try.ntmps52
  go_wp2_with (at_make; refine wpList_make_full _ rfl _ _ 82 rfl w.heap.size 5 i0 (.int .u8 0) 1 Try.underlying82 hi hz0 hz1 _ _ _ _ 0 rfl rfl rfl rfl (by omega) (by unfold maxLen; omega) (Nat.le_refl _) ?_)
  intro w0 hown0 hgrow0
  have hnx : Below w.heap.size w w0 := (Below.refl _ _).grown hgrow0 (Nat.le_refl _) (fun k h => by cases h)
  have hown : w0.ownsRow w.heap.size 5 1 (.slice (some ⟨w.heap.size, 0, none⟩) 0 0) 0 (rowB (part (byteF g) 0) 0) := by rw [← made_bytes]; exact hown0
  have ht := row_text (byteF_lt g) hown
  clear hown0 hgrow0 hown
  go_wp2
  go_loop [21] (fun i => i = .int .i64 0) (fun _ => 0)
  case atStart => rfl
  case round =>
    subst hrel
    go_wp2
    go_ret2
    exact ⟨rfl, hnx⟩

theorem untext_arg (ao : Option Addr) (len cap : Nat) (n : Int) (w : World) (hlen : len * 8 ≤ 140737488351232) (h : n < 0 ∨ 8 * (len : Int) < n) :
    Calls Try.prog 52 #[.slice ao len cap, .int .i64 n] w fun e w' => e = .returned (.tuple #[.string ⟨#[]⟩, .int .i64 1]) ∧ w' = w := by
  rcases h with h | h
  · go_enter Try.func52, Try.ntmps52
    go_wp2
    go_ret2
    exact ⟨rfl, rfl⟩
  · have h' : ¬ n < 0 := by omega
    go_enter Try.func52, Try.ntmps52
    go_wp2
    go_ret2
    exact ⟨rfl, rfl⟩


end Go.Proofs.Ytdjnkibnnjobpaa.Wd
