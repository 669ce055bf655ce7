/- The base: memory, plan, cards, view, store, image, in one text. -/
import Derived.WalkKit
import Derived.Test.YtdjnkibnnjobpaaProg
import Derived.Deep.RegionWith
import Derived.Laws.IdiomStrings
import Derived.Lib.RepeatB

namespace Go.Proofs.Ytdjnkibnnjobpaa.Wd

def getN (w a n : Nat) : Nat := w / 2 ^ a % 2 ^ n
def putN (w a n v : Nat) : Nat := (w &&& (2 ^ 64 - ((2 ^ n - 1) <<< a + 1))) ||| (v <<< a)

theorem mask_lt (a n : Nat) (h : a + n ≤ 64) : (2 ^ n - 1) <<< a < 2 ^ 64 := by
  rw [Nat.shiftLeft_eq]
  have h1 : 2 ^ n * 2 ^ a ≤ 2 ^ 64 := by rw [← Nat.pow_add]; exact Nat.pow_le_pow_right (by omega) (by omega)
  have h2 : 0 < 2 ^ a := Nat.two_pow_pos _
  have h3 : 0 < 2 ^ n := Nat.two_pow_pos _
  have h4 : (2 ^ n - 1) * 2 ^ a < 2 ^ n * 2 ^ a := Nat.mul_lt_mul_of_pos_right (by omega) h2
  omega

theorem getN_bit (w a n i : Nat) : (getN w a n).testBit i = (decide (i < n) && w.testBit (a + i)) := by
  unfold getN
  rw [Nat.testBit_mod_two_pow, Nat.testBit_div_two_pow]
  rw [Nat.add_comm]

theorem putN_bit (w a n v i : Nat) (hw : w < 2 ^ 64) (h : a + n ≤ 64) (hv : v < 2 ^ n) :
    (putN w a n v).testBit i = if a ≤ i ∧ i < a + n then v.testBit (i - a) else w.testBit i := by
  unfold putN
  rw [Nat.testBit_or, Nat.testBit_and, Nat.testBit_two_pow_sub_succ (mask_lt a n h), Nat.testBit_shiftLeft, Nat.testBit_shiftLeft, Nat.testBit_two_pow_sub_one]
  by_cases h1 : a ≤ i
  · by_cases h2 : i < a + n
    · have e : i - a < n := by omega
      simp [h1, h2, e]
    · have e : ¬ i - a < n := by omega
      have e2 : v.testBit (i - a) = false := Nat.testBit_lt_two_pow (Nat.lt_of_lt_of_le hv (Nat.pow_le_pow_right (by omega) (by omega)))
      by_cases h3 : i < 64
      · simp [h1, h2, e, e2, h3]
      · have e3 : w.testBit i = false := Nat.testBit_lt_two_pow (Nat.lt_of_lt_of_le hw (Nat.pow_le_pow_right (by omega) (by omega)))
        simp [h2, e, e2, h3, e3]
  · by_cases h3 : i < 64
    · simp [h1, h3]
    · exfalso; omega

theorem putN_lt (w a n v : Nat) (hw : w < 2 ^ 64) (h : a + n ≤ 64) (hv : v < 2 ^ n) : putN w a n v < 2 ^ 64 := by
  refine Nat.lt_pow_two_of_testBit _ fun i hi => ?_
  rw [putN_bit w a n v i hw h hv, if_neg (by omega)]
  exact Nat.testBit_lt_two_pow (Nat.lt_of_lt_of_le hw (Nat.pow_le_pow_right (by omega) hi))

theorem getN_lt (w a n : Nat) : getN w a n < 2 ^ n := Nat.mod_lt _ (Nat.two_pow_pos _)

theorem getN_le (w a n : Nat) : getN w a n ≤ w := Nat.le_trans (Nat.mod_le _ _) (Nat.div_le_self _ _)

theorem get_put (w a n v : Nat) (hw : w < 2 ^ 64) (h : a + n ≤ 64) (hv : v < 2 ^ n) : getN (putN w a n v) a n = v := by
  refine Nat.eq_of_testBit_eq fun i => ?_
  rw [getN_bit, putN_bit w a n v _ hw h hv]
  by_cases h1 : i < n
  · rw [if_pos (by omega)]; simp [h1]
  · have : v.testBit i = false := Nat.testBit_lt_two_pow (Nat.lt_of_lt_of_le hv (Nat.pow_le_pow_right (by omega) (by omega)))
    simp [h1, this]

theorem put_back (w a n v : Nat) (hw : w < 2 ^ 64) (h : a + n ≤ 64) (hv : v < 2 ^ n) : putN (putN w a n v) a n (getN w a n) = w := by
  refine Nat.eq_of_testBit_eq fun i => ?_
  rw [putN_bit _ a n _ _ (putN_lt w a n v hw h hv) h (getN_lt _ _ _), putN_bit w a n v _ hw h hv, getN_bit]
  by_cases h1 : a ≤ i ∧ i < a + n
  · have e : a + (i - a) = i := by omega
    have e2 : i - a < n := by omega
    rw [if_pos h1, e]; simp [e2]
  · simp [h1]

theorem get_apart (w a n v b m : Nat) (hw : w < 2 ^ 64) (h : a + n ≤ 64) (hv : v < 2 ^ n) (hap : b + m ≤ a ∨ a + n ≤ b) : getN (putN w a n v) b m = getN w b m := by
  refine Nat.eq_of_testBit_eq fun i => ?_
  rw [getN_bit, getN_bit, putN_bit w a n v _ hw h hv]
  by_cases h1 : i < m
  · rw [if_neg (by omega)]
  · simp [h1]

theorem whole (w k : Nat) (hw : w < 2 ^ 64) (hk : k ≤ 64) : putN (putN 0 0 k (getN w 0 k)) k (64 - k) (getN w k (64 - k)) = w := by
  have h0 : putN 0 0 k (getN w 0 k) < 2 ^ 64 := putN_lt 0 0 k _ (by omega) (by omega) (getN_lt _ _ _)
  refine Nat.eq_of_testBit_eq fun i => ?_
  rw [putN_bit _ k (64 - k) _ _ h0 (by omega) (getN_lt _ _ _), putN_bit 0 0 k _ _ (by omega) (by omega) (getN_lt _ _ _), getN_bit, getN_bit]
  by_cases h1 : k ≤ i
  · by_cases h2 : i < 64
    · rw [if_pos (by omega)]
      have e : k + (i - k) = i := by omega
      have e2 : i - k < 64 - k := by omega
      rw [e]; simp [e2]
    · have e3 : w.testBit i = false := Nat.testBit_lt_two_pow (Nat.lt_of_lt_of_le hw (Nat.pow_le_pow_right (by omega) (by omega)))
      rw [if_neg (by omega), if_neg (by omega), e3]; simp
  · rw [if_neg (by omega), if_pos (by omega)]
    have e2 : i < k := by omega
    simp [e2]

theorem get_all (w : Nat) (hw : w < 2 ^ 64) : getN w 0 64 = w := by
  unfold getN; rw [Nat.pow_zero, Nat.div_one]; exact Nat.mod_eq_of_lt hw

/-! ### As integers -/
def getI (w a n : Int) : Int := (getN w.toNat a.toNat n.toNat : Nat)
def putI (w a n v : Int) : Int := (putN w.toNat a.toNat n.toNat v.toNat : Nat)
def onesI (n : Int) : Int := (2 ^ n.toNat - 1 : Nat)
def pow64 : Int := 18446744073709551616

theorem getI_bd (w a n : Int) (h0 : 0 ≤ w) : 0 ≤ getI w a n ∧ getI w a n ≤ w := by
  have := getN_le w.toNat a.toNat n.toNat
  unfold getI; omega

theorem getI_ones (w a n : Int) : getI w a n ≤ onesI n := by
  have := getN_lt w.toNat a.toNat n.toNat
  unfold getI onesI; omega

theorem onesI_bd (n : Int) (h : n ≤ 64) : 0 ≤ onesI n ∧ onesI n ≤ 18446744073709551615 := by
  have h1 : 2 ^ n.toNat ≤ 2 ^ 64 := Nat.pow_le_pow_right (by omega) (by omega)
  unfold onesI; omega

theorem ones_form (n : Int) (h0 : 0 ≤ n) (h1 : n ≤ 64) : (18446744073709551615 : Int) / 2 ^ (64 - n).toNat = onesI n := by
  obtain ⟨N, rfl⟩ := Int.eq_ofNat_of_zero_le h0
  have e : (64 - (N : Int)).toNat = 64 - N := by omega
  have hN : N ≤ 64 := by omega
  rw [e]
  have hp : 0 < 2 ^ (64 - N) := Nat.two_pow_pos _
  have hm : 2 ^ N * 2 ^ (64 - N) = 2 ^ 64 := by rw [← Nat.pow_add]; congr 1; omega
  have : (2 ^ 64 - 1) / 2 ^ (64 - N) = 2 ^ N - 1 := by
    rw [Nat.div_eq_iff hp]
    have hq : 0 < 2 ^ N := Nat.two_pow_pos _
    obtain ⟨q, hq2⟩ : ∃ q, 2 ^ N = q + 1 := ⟨2 ^ N - 1, by omega⟩
    rw [hq2] at hm ⊢
    rw [Nat.add_mul] at hm
    simp only [Nat.add_sub_cancel]
    omega
  unfold onesI
  rw [Int.toNat_natCast, ← this]
  simp

theorem get_form (w a n : Int) (hw0 : 0 ≤ w) (hw : w ≤ 18446744073709551615) (ha : 0 ≤ a) (hn : 0 ≤ n) (h : a + n ≤ 64) :
    ((( w / 2 ^ a.toNat).toNat &&& (onesI n).toNat : Nat) : Int) = getI w a n := by
  obtain ⟨W, rfl⟩ := Int.eq_ofNat_of_zero_le hw0
  obtain ⟨A, rfl⟩ := Int.eq_ofNat_of_zero_le ha
  obtain ⟨N, rfl⟩ := Int.eq_ofNat_of_zero_le hn
  unfold onesI getI getN
  have e : ((W : Int) / 2 ^ (A : Int).toNat).toNat = W / 2 ^ A := by
    rw [Int.toNat_natCast]
    have : ((W : Int) / 2 ^ A) = ((W / 2 ^ A : Nat) : Int) := by simp
    rw [this, Int.toNat_natCast]
  rw [e]
  simp only [Int.toNat_natCast]
  rw [Nat.and_two_pow_sub_one_eq_mod]

theorem get_bits (w a n : Int) (hw0 : 0 ≤ w) (hw : w ≤ 18446744073709551615) (ha : 0 ≤ a) (hn : 0 ≤ n) (h : a + n ≤ 64) :
    bits .and .u64 (w / 2 ^ a.toNat) (onesI n) = getI w a n := by
  have hb := onesI_bd n (by omega)
  have hd0 : 0 ≤ w / 2 ^ a.toNat := Int.ediv_nonneg hw0 (Int.le_of_lt (Int.pow_pos (by decide)))
  have hd1 : w / 2 ^ a.toNat ≤ w := Int.ediv_le_self _ hw0
  rw [u64_and _ _ hd0 (by omega) hb.1 (by omega), get_form w a n hw0 hw ha hn h]

theorem shl_fits (x a n : Nat) (hx : x < 2 ^ n) (h : a + n ≤ 64) : x * 2 ^ a < 2 ^ 64 := by
  have h1 : 2 ^ n * 2 ^ a ≤ 2 ^ 64 := by rw [← Nat.pow_add]; exact Nat.pow_le_pow_right (by omega) (by omega)
  have h4 : x * 2 ^ a < 2 ^ n * 2 ^ a := Nat.mul_lt_mul_of_pos_right hx (Nat.two_pow_pos _)
  omega

theorem wrap_shl (X A N : Nat) (hx : X < 2 ^ N) (h : A + N ≤ 64) : IntKind.u64.wrap ((X : Int) * 2 ^ A) = ((X <<< A : Nat) : Int) := by
  have h1 := shl_fits X A N hx h
  have e : ((X : Int) * 2 ^ A) = ((X * 2 ^ A : Nat) : Int) := by simp
  rw [IntKind.wrap_u64, e, Nat.shiftLeft_eq]
  omega

theorem put_bits (w a n v : Int) (hw0 : 0 ≤ w) (hw : w ≤ 18446744073709551615) (ha : 0 ≤ a) (hn : 0 ≤ n) (h : a + n ≤ 64) (hv0 : 0 ≤ v) (hv : v ≤ onesI n) :
    bits .or .u64 (bits .andNot .u64 w (IntKind.u64.wrap (onesI n * 2 ^ a.toNat))) (IntKind.u64.wrap (v * 2 ^ a.toNat)) = putI w a n v := by
  obtain ⟨W, rfl⟩ := Int.eq_ofNat_of_zero_le hw0
  obtain ⟨A, rfl⟩ := Int.eq_ofNat_of_zero_le ha
  obtain ⟨N, rfl⟩ := Int.eq_ofNat_of_zero_le hn
  obtain ⟨V, rfl⟩ := Int.eq_ofNat_of_zero_le hv0
  have hp : 0 < 2 ^ N := Nat.two_pow_pos _
  have hV : V < 2 ^ N := by unfold onesI at hv; rw [Int.toNat_natCast] at hv; omega
  have hAN : A + N ≤ 64 := by omega
  have hm := mask_lt A N hAN
  unfold onesI putI
  simp only [Int.toNat_natCast]
  rw [wrap_shl (2 ^ N - 1) A N (by omega) hAN, wrap_shl V A N hV hAN]
  have hs : V <<< A < 2 ^ 64 := by rw [Nat.shiftLeft_eq]; exact shl_fits V A N hV hAN
  rw [u64_andNot_nat _ _ (by omega) (by omega)]
  rw [u64_or_nat _ _ (Nat.lt_of_le_of_lt Nat.and_le_left (by omega)) (by omega)]
  unfold putN
  have e : 18446744073709551615 - (2 ^ N - 1) <<< A = 2 ^ 64 - ((2 ^ N - 1) <<< A + 1) := by omega
  rw [e]

theorem putI_bd (w a n v : Int) (hw0 : 0 ≤ w) (hw : w ≤ 18446744073709551615) (ha : 0 ≤ a) (hn : 0 ≤ n) (h : a + n ≤ 64) (_hv0 : 0 ≤ v) (hv : v ≤ onesI n) :
    0 ≤ putI w a n v ∧ putI w a n v ≤ 18446744073709551615 := by
  have hp : 0 < 2 ^ n.toNat := Nat.two_pow_pos _
  have := putN_lt w.toNat a.toNat n.toNat v.toNat (by omega) (by omega) (by unfold onesI at hv; omega)
  unfold putI; omega

/-! ### Texts as words -/
def bAt (s : ByteArray) (k : Nat) : Nat := if h : k < s.size then s[k].toNat else 0
theorem bAt_lt (s : ByteArray) (k : Nat) : bAt s k < 256 := by
  unfold bAt; split
  · exact UInt8.toNat_lt _
  · omega
theorem bAt_eq (s : ByteArray) (k : Nat) (h : k < s.size) : bAt s k = s[k].toNat := by unfold bAt; rw [dif_pos h]

/-- The word j of the first k bytes. -/
def tw (b : Nat → Nat) : Nat → Nat → Nat
  | 0, _ => 0
  | k + 1, j => if k / 8 = j then tw b k j ||| (b k <<< (k % 8 * 8)) else tw b k j

theorem byte_bit (x i : Nat) (hx : x < 256) (hi : 8 ≤ i) : x.testBit i = false :=
  Nat.testBit_lt_two_pow (Nat.lt_of_lt_of_le hx (Nat.pow_le_pow_right (by omega) hi : 2 ^ 8 ≤ 2 ^ i))

theorem tw_bit (b : Nat → Nat) (hb : ∀ k, b k < 256) (k j i : Nat) :
    (tw b k j).testBit i = (decide (i < 64 ∧ 8 * j + i / 8 < k) && (b (8 * j + i / 8)).testBit (i % 8)) := by
  induction k with
  | zero => simp [tw]
  | succ k ih =>
    unfold tw
    by_cases hj : k / 8 = j
    · rw [if_pos hj, Nat.testBit_or, ih, Nat.testBit_shiftLeft]
      by_cases hi : i < 64
      · by_cases h1 : 8 * j + i / 8 = k
        · have e1 : k % 8 * 8 ≤ i := by omega
          have e2 : i - k % 8 * 8 = i % 8 := by omega
          rw [h1]; simp [e1, e2, hi]
        · have e3 : (decide (k % 8 * 8 ≤ i) && (b k).testBit (i - k % 8 * 8)) = false := by
            by_cases h2 : k % 8 * 8 ≤ i
            · rw [byte_bit _ _ (hb k) (by omega)]; simp
            · simp [h2]
          rw [e3]
          have e4 : (8 * j + i / 8 < k + 1) ↔ (8 * j + i / 8 < k) := by omega
          simp [e4]
      · have e3 : (b k).testBit (i - k % 8 * 8) = false := byte_bit _ _ (hb k) (by omega)
        simp [hi, e3]
    · rw [if_neg hj, ih]
      by_cases hi : i < 64
      · have e4 : (8 * j + i / 8 < k + 1) ↔ (8 * j + i / 8 < k) := by omega
        simp [e4]
      · simp [hi]

theorem tw_lt (b : Nat → Nat) (hb : ∀ k, b k < 256) (k j : Nat) : tw b k j < 2 ^ 64 := by
  refine Nat.lt_pow_two_of_testBit _ fun i hi => ?_
  rw [tw_bit b hb]
  have : ¬ i < 64 := by omega
  simp [this]

theorem tw_next (b : Nat → Nat) (k : Nat) : tw b (k + 1) (k / 8) = tw b k (k / 8) ||| (b k <<< (k % 8 * 8)) := by
  rw [tw, if_pos rfl]
theorem tw_same (b : Nat → Nat) (k j : Nat) (h : k / 8 ≠ j) : tw b (k + 1) j = tw b k j := by
  rw [tw, if_neg h]

def rowOf (f : Nat → Nat) (n : Nat) : List Value := (List.range n).map fun j => Value.int .u64 (f j : Nat)

theorem rowOf_len (f : Nat → Nat) (n : Nat) : (rowOf f n).length = n := by simp [rowOf]
theorem rowOf_at (f : Nat → Nat) (n j : Nat) (h : j < n) : (rowOf f n)[j]? = some (.int .u64 (f j : Nat)) := by simp [rowOf, h]
theorem rowOf_set (f g : Nat → Nat) (n q : Nat) (h : ∀ j, j ≠ q → g j = f j) : (rowOf f n).set q (.int .u64 (g q : Nat)) = rowOf g n := by
  apply List.ext_getElem?
  intro j
  rw [List.getElem?_set]
  by_cases hj : j < n
  · by_cases hq : q = j
    · subst hq; rw [rowOf_at g n _ hj, if_pos rfl, rowOf_len, if_pos hj]
    · rw [if_neg hq, rowOf_at f n j hj, rowOf_at g n j hj, h j (by omega)]
  · have e1 : (rowOf f n)[j]? = none := List.getElem?_eq_none (by rw [rowOf_len]; omega)
    have e2 : (rowOf g n)[j]? = none := List.getElem?_eq_none (by rw [rowOf_len]; omega)
    rw [e1, e2, rowOf_len]
    by_cases hq : q = j
    · rw [if_pos hq, if_neg (by omega)]
    · rw [if_neg hq]
theorem rowOf_zero (n : Nat) (f : Nat → Nat) (h : ∀ j, f j = 0) : List.replicate n (Value.int .u64 0) = rowOf f n := by
  apply List.ext_getElem?
  intro j
  by_cases hj : j < n
  · rw [rowOf_at f n j hj, h j]; simp [hj]
  · rw [List.getElem?_eq_none (by simp; omega), List.getElem?_eq_none (by rw [rowOf_len]; omega)]

theorem text_step (s : ByteArray) (k q : Nat) (hk : k < s.size) (hq : q = k / 8) :
    bits .or .u64 ((tw (bAt s) k q : Nat) : Int) (IntKind.u64.wrap (IntKind.u64.wrap ((s[k].toNat : Nat) : Int) * 2 ^ (k % 8 * 8))) = ((tw (bAt s) (k + 1) q : Nat) : Int) := by
  subst hq
  have hb := bAt_lt s
  have e1 : IntKind.u64.wrap ((s[k].toNat : Nat) : Int) = ((bAt s k : Nat) : Int) := by
    rw [bAt_eq s k hk, IntKind.wrap_u64]
    have := UInt8.toNat_lt s[k]
    omega
  have hx : bAt s k < 2 ^ 8 := hb k
  rw [e1, wrap_shl (bAt s k) (k % 8 * 8) 8 hx (by omega)]
  have h1 := tw_lt (bAt s) hb k (k / 8)
  have h2 : bAt s k <<< (k % 8 * 8) < 2 ^ 64 := by rw [Nat.shiftLeft_eq]; exact shl_fits _ _ 8 hx (by omega)
  rw [u64_or_nat _ _ (by omega) (by omega), tw_next]

theorem text_rows (b : Nat → Nat) (k n q : Nat) (hq : q = k / 8) : (rowOf (tw b k) n).set q (.int .u64 ((tw b (k + 1) q : Nat) : Int)) = rowOf (tw b (k + 1)) n :=
  rowOf_set (tw b k) (tw b (k + 1)) n q fun j hj => tw_same b k j (by omega)

end Go.Proofs.Ytdjnkibnnjobpaa.Wd

namespace Go.Proofs.Ytdjnkibnnjobpaa.Wd
open Go.RowKit

theorem ret_int {k : IntKind} {a b : Int} (h : a = b) : Ending.returned (.int k a) = .returned (.int k b) := by rw [h]
theorem ret_pair {k l : IntKind} {a b : Int} {c : Int} (h : a = b) : Ending.returned (.tuple #[.int k a, .int l c]) = .returned (.tuple #[.int k b, .int l c]) := by rw [h]

theorem place_any (i : Int) (w : World) (h0 : 0 ≤ i) (h1 : i ≤ 9223372036854775807) :
    Calls Try.prog 66 #[.int .i64 i] w fun e w' => e = .returned (.int .u64 (i % 8 * 8)) ∧ w' = w := by
  go_enter Try.func66, Try.ntmps66
  go_wp2
  go_ret
  exact ⟨rfl, rfl⟩

/-- No field: the place is below 0, or the width below 1, or they reach beyond 64. -/
structure NoField (a n : Int) : Prop where
  lo : -9223372036854775808 ≤ a
  hi : a ≤ 9223372036854775807
  no : a < 0 ∨ n < 1 ∨ 64 < a + n

theorem Try.info22 : (Try.prog.info? 23).map (fun i => (i.zero, i.size, i.bytes)) = some (some (.int .u64 0), 1, 8) := by kernel_rfl

theorem made_row (n : Nat) (b : Nat → Nat) : (madeCells #[Value.int .u64 0] n).toList = rowOf (tw b 0) n := by
  rw [toList_madeCells_one]; exact rowOf_zero n _ fun _ => rfl

set_option maxHeartbeats 1600000 in
set_option maxRecDepth 100000 in
theorem text_yes (s : ByteArray) (n : Nat) (w : World) (hn : n ≤ 64) (hs : s.size ≤ 8 * n) :
    Calls Try.prog 68 #[.string s, .int .i64 n] w fun e w' => e = .returned (.tuple #[.slice (some ⟨w.heap.size, 0, none⟩) n n, .int .i64 0]) ∧
      w'.ownsRow w.heap.size 23 1 (.slice (some ⟨w.heap.size, 0, none⟩) n n) n (rowOf (tw (bAt s) s.size) n) ∧ Below w.heap.size w w' := by
  obtain ⟨i0, hi, hz0, hz1, hz2⟩ := info_parts Try.info22
  go_enter Try.func68, Try.ntmps68
  go_wp2_with (at_make; refine wpList_make_full _ rfl _ _ 30 rfl w.heap.size 23 i0 (.int .u64 0) 1 Try.underlying30 hi hz0 hz1 _ _ _ _ n rfl rfl rfl rfl ?b2 ?b3 (Nat.le_refl _) ?_)
  case b2 => rw [hz2]; omega
  case b3 => unfold maxLen; omega
  intro w0 hown0 hgrow0
  go_wp2
  go_loopw [23] (fun i wr => ∃ k : Nat, k ≤ s.size ∧ i = .int .i64 k ∧ wr.ownsRow w.heap.size 23 1 (.slice (some ⟨w.heap.size, 0, none⟩) n n) n (rowOf (tw (bAt s) k) n) ∧ Below w.heap.size w wr) (fun i _ => s.size - (intOf i).toNat)
  case atStart => exact ⟨0, Nat.zero_le _, rfl, by rw [← made_row]; exact hown0, (Below.refl _ _).grown hgrow0 (Nat.le_refl _) (fun k h => by cases h)⟩
  case round =>
    obtain ⟨k, hk, rfl, hown, hnx⟩ := hrel
    by_cases hlt : k < s.size
    · obtain ⟨q, hq⟩ : ∃ q, q = k / 8 := ⟨_, rfl⟩
      have hk8 : q < n := by omega
      have hcell : wr.cell? ⟨w.heap.size, q, none⟩ = some (.int .u64 (tw (bAt s) k q : Nat)) := by rw [hown.cellAt _ (by omega), rowOf_at _ _ _ hk8]
      have hfz : wr.frozen? ⟨w.heap.size, q, none⟩ = false := hown.frozenAt _
      have hb2 : (k : Int) < (s.size : Int) := by omega
      have hb1 : (q : Int) < (n : Int) := by omega
      have hwq : IntKind.i64.wrap ((k : Int) / 8) = (q : Int) := by simp only [IntKind.wrap_i64]; omega
      have HS : Hid (bits .or .u64 ((tw (bAt s) k q : Nat) : Int) (IntKind.u64.wrap (IntKind.u64.wrap ((s[k].toNat : Nat) : Int) * 2 ^ (k % 8 * 8))) = ((tw (bAt s) (k + 1) q : Nat) : Int)) := text_step s k q hlt hq
      have HR : Hid ((rowOf (tw (bAt s) k) n).set q (.int .u64 ((tw (bAt s) (k + 1) q : Nat) : Int)) = rowOf (tw (bAt s) (k + 1)) n) := text_rows (bAt s) k n q hq
      clear hq
      go_wp2
      go_region_with (go_at_call 66; refine (place_any _ _ (by omega) (by omega)).mono ?_; rintro e w' ⟨rfl, rfl⟩)
      all_goals
        go_wp2
        go_roundw
        case rel => exact ⟨k + 1, by omega, by go_num, by rw [HS.out, ← HR.out]; exact (hown.stored q _).1.drew, by exact (hnx.setCell (Nat.le_refl _) _).drew⟩
        case measure => simp [intOf]; omega
    · have e : k = s.size := by omega
      subst e
      go_wp2
      go_ret2
      exact ⟨rfl, hown, hnx⟩

theorem text_arg (s : ByteArray) (n : Int) (w : World) (h : n < 0 ∨ 64 < n) :
    Calls Try.prog 68 #[.string s, .int .i64 n] w fun e w' => e = .returned (.tuple #[.slice none 0 0, .int .i64 1]) ∧ w' = w := by
  rcases h with h | h
  · go_enter Try.func68, Try.ntmps68
    go_wp2
    go_ret2
    exact ⟨rfl, rfl⟩
  · have h' : ¬ n < 0 := by omega
    go_enter Try.func68, Try.ntmps68
    go_wp2
    go_ret2
    exact ⟨rfl, rfl⟩

theorem text_range (s : ByteArray) (n : Nat) (w : World) (hn : n ≤ 64) (hs : 8 * n < s.size) :
    Calls Try.prog 68 #[.string s, .int .i64 n] w fun e w' => e = .returned (.tuple #[.slice none 0 0, .int .i64 2]) ∧ w' = w := by
  go_enter Try.func68, Try.ntmps68
  go_wp2
  go_ret2
  exact ⟨rfl, rfl⟩


/-- The byte i of the words g. -/
def byteF (g : Nat → Nat) (i : Nat) : Nat := getN (g (i / 8)) (i % 8 * 8) 8
theorem byteF_lt (g : Nat → Nat) (i : Nat) : byteF g i < 256 := getN_lt _ _ 8
def listB (f : Nat → Nat) (n : Nat) : List UInt8 := (List.range n).map fun i => UInt8.ofNat (f i)
def mkB (f : Nat → Nat) (n : Nat) : ByteArray := ⟨(listB f n).toArray⟩
def part (f : Nat → Nat) (k i : Nat) : Nat := if i < k then f i else 0
def rowB (f : Nat → Nat) (n : Nat) : List Value := (List.range n).map fun j => Value.int .u8 (f j : Nat)

theorem rowB_len (f : Nat → Nat) (n : Nat) : (rowB f n).length = n := by simp [rowB]
theorem rowB_at (f : Nat → Nat) (n j : Nat) (h : j < n) : (rowB f n)[j]? = some (.int .u8 (f j : Nat)) := by simp [rowB, h]
theorem rowB_set (f : Nat → Nat) (n k : Nat) : (rowB (part f k) n).set k (.int .u8 (f k : Nat)) = rowB (part f (k + 1)) n := by
  apply List.ext_getElem?
  intro j
  rw [List.getElem?_set]
  by_cases hj : j < n
  · by_cases hq : k = j
    · subst hq
      have e : part f (k + 1) k = f k := by unfold part; rw [if_pos (by omega)]
      rw [rowB_at (part f (k + 1)) n _ hj, if_pos rfl, rowB_len, if_pos hj, e]
    · have e : part f (k + 1) j = part f k j := by
        unfold part
        by_cases h : j < k
        · rw [if_pos (by omega), if_pos h]
        · rw [if_neg (by omega), if_neg h]
      rw [if_neg hq, rowB_at _ n j hj, rowB_at _ n j hj, e]
  · have e1 : (rowB (part f k) n)[j]? = none := List.getElem?_eq_none (by rw [rowB_len]; omega)
    have e2 : (rowB (part f (k + 1)) n)[j]? = none := List.getElem?_eq_none (by rw [rowB_len]; omega)
    rw [e1, e2, rowB_len]
    by_cases hq : k = j
    · rw [if_pos hq, if_neg (by omega)]
    · rw [if_neg hq]
theorem made_bytes (n : Nat) (f : Nat → Nat) : (madeCells #[Value.int .u8 0] n).toList = rowB (part f 0) n := by
  rw [toList_madeCells_one]
  apply List.ext_getElem?
  intro j
  by_cases hj : j < n
  · have e : part f 0 j = 0 := by unfold part; rw [if_neg (by omega)]
    rw [rowB_at _ n j hj, e]; simp [hj]
  · rw [List.getElem?_eq_none (by simp; omega), List.getElem?_eq_none (by rw [rowB_len]; omega)]

theorem listB_len (f : Nat → Nat) (n : Nat) : (listB f n).length = n := by simp [listB]
theorem listB_at (f : Nat → Nat) (hf : ∀ i, f i < 256) (n j : Nat) (h : j < (listB f n).length) : ((listB f n)[j]).toNat = f j := by
  simp [listB]
  exact hf j

theorem byte_step (g : Nat → Nat) (k q : Nat) (hq : q = k / 8) :
    ((g q : Nat) : Int) / 2 ^ (k % 8 * 8) % 256 = ((byteF g k : Nat) : Int) := by
  subst hq
  unfold byteF getN
  have e : (((g (k / 8) : Nat) : Int) / 2 ^ (k % 8 * 8)) = ((g (k / 8) / 2 ^ (k % 8 * 8) : Nat) : Int) := by simp
  rw [e]
  omega

theorem Try.info5 : (Try.prog.info? 5).map (fun i => (i.zero, i.size, i.bytes)) = some (some (.int .u8 0), 1, 1) := by kernel_rfl

/-- The bytes of an own row, as a text. -/
theorem row_text {w : World} {base B n cap : Nat} {f : Nat → Nat} (hf : ∀ i, f i < 256) (hown : w.ownsRow base 5 1 (.slice (some ⟨B, 0, none⟩) n cap) n (rowB (part f n) n)) :
    (convert 82 9 (.slice (some ⟨B, 0, none⟩) n cap)).run Try.prog w = .ok (.string (mkB f n)) w := by
  have h := run_convert_bytes_back (P := Try.prog) w 82 9 5 ⟨B, 0, none⟩ cap (listB f n) Try.underlying82 Try.underlying5 Try.underlying9 (fun j hj => by
    rw [listB_len] at hj
    have e : part f n j = f j := by unfold part; rw [if_pos hj]
    have ea : (⟨B, 0, none⟩ : Addr).add j = ⟨B, j, none⟩ := by simp [Addr.add]; intro h; exact h.symm
    rw [ea, hown.cellAt j (by omega), rowB_at _ _ _ hj, e, listB_at f hf])
  rw [listB_len] at h
  exact h

set_option maxHeartbeats 1600000 in
set_option maxRecDepth 100000 in
theorem untext_yes (b off len cap : Nat) (g : Nat → Nat) (n : Nat) (w : World) (hn : n ≤ 8 * len) (hlen : len * 8 ≤ 140737488351232) (hb : b < w.heap.size) (hg : ∀ j, g j < 2 ^ 64)
    (hc : ∀ j, j < len → w.cell? ⟨b, off + j, none⟩ = some (.int .u64 (g j : Nat))) :
    Calls Try.prog 52 #[.slice (some ⟨b, off, none⟩) len cap, .int .i64 n] w fun e w' => e = .returned (.tuple #[.string (mkB (byteF g) n), .int .i64 0]) ∧ Below w.heap.size w w' := by
  obtain ⟨i0, hi, hz0, hz1, hz2⟩ := info_parts Try.info5
  go_enter Try.func52, Try.ntmps52
  go_wp2_with (at_make; refine wpList_make_full _ rfl _ _ 82 rfl w.heap.size 5 i0 (.int .u8 0) 1 Try.underlying82 hi hz0 hz1 _ _ _ _ n rfl rfl rfl rfl ?b2 ?b3 (Nat.le_refl _) ?_)
  case b2 => rw [hz2]; omega
  case b3 => unfold maxLen; omega
  intro w0 hown0 hgrow0
  go_wp2
  go_loopw [21] (fun i wr => ∃ k : Nat, k ≤ n ∧ i = .int .i64 k ∧ wr.ownsRow w.heap.size 5 1 (.slice (some ⟨w.heap.size, 0, none⟩) n n) n (rowB (part (byteF g) k) n) ∧ Below w.heap.size w wr) (fun i _ => n - (intOf i).toNat)
  case atStart => exact ⟨0, Nat.zero_le _, rfl, by rw [← made_bytes]; exact hown0, (Below.refl _ _).grown hgrow0 (Nat.le_refl _) (fun k h => by cases h)⟩
  case round =>
    obtain ⟨k, hk, rfl, hown, hnx⟩ := hrel
    by_cases hlt : k < n
    · obtain ⟨q, hq⟩ : ∃ q, q = k / 8 := ⟨_, rfl⟩
      have hk8 : q < len := by omega
      have hcell : wr.cell? ⟨b, off + q, none⟩ = some (.int .u64 (g q : Nat)) := (hnx.cell (by exact hb)).trans (hc q hk8)
      have hcell2 : wr.cell? ⟨w.heap.size, k, none⟩ = some (.int .u8 (part (byteF g) k k : Nat)) := by rw [hown.cellAt _ (by omega), rowB_at _ _ _ hlt]
      have hfz : wr.frozen? ⟨w.heap.size, k, none⟩ = false := hown.frozenAt _
      have hb2 : (k : Int) < (n : Int) := by omega
      have hb1 : (q : Int) < (len : Int) := by omega
      have hgq : ((g q : Nat) : Int) ≤ 18446744073709551615 := by have := hg q; omega
      have hwq : IntKind.i64.wrap ((k : Int) / 8) = (q : Int) := by simp only [IntKind.wrap_i64]; omega
      have HS : Hid _ := byte_step g k q hq
      have HR : Hid _ := rowB_set (byteF g) n k
      clear hq
      go_wp2
      go_region_with (go_at_call 66; refine (place_any _ _ (by omega) (by omega)).mono ?_; rintro e w' ⟨rfl, rfl⟩)
      all_goals
        go_wp2
        go_roundw
        case rel => exact ⟨k + 1, by omega, by go_num, by rw [HS.out, ← HR.out]; exact (hown.stored k _).1.drew, by exact (hnx.setCell (Nat.le_refl _) _).drew⟩
        case measure => simp [intOf]; omega
    · have e : k = n := by omega
      subst e
      have ht := row_text (byteF_lt g) hown
      go_wp2
      go_ret2
      exact ⟨rfl, hnx⟩

set_option maxHeartbeats 400000 in
theorem untext_zero (ao : Option Addr) (cap : Nat) (g : Nat → Nat) (w : World) :
    Calls Try.prog 52 #[.slice ao 0 cap, .int .i64 0] w fun e w' => e = .returned (.tuple #[.string (mkB (byteF g) 0), .int .i64 0]) ∧ Below w.heap.size w w' := by
  obtain ⟨i0, hi, hz0, hz1, hz2⟩ := info_parts Try.info5
  go_enter Try.func52, Try.ntmps52
  go_wp2_with (at_make; refine wpList_make_full _ rfl _ _ 82 rfl w.heap.size 5 i0 (.int .u8 0) 1 Try.underlying82 hi hz0 hz1 _ _ _ _ 0 rfl rfl rfl rfl (by omega) (by unfold maxLen; omega) (Nat.le_refl _) ?_)
  intro w0 hown0 hgrow0
  have hnx : Below w.heap.size w w0 := (Below.refl _ _).grown hgrow0 (Nat.le_refl _) (fun k h => by cases h)
  have hown : w0.ownsRow w.heap.size 5 1 (.slice (some ⟨w.heap.size, 0, none⟩) 0 0) 0 (rowB (part (byteF g) 0) 0) := by rw [← made_bytes]; exact hown0
  have ht := row_text (byteF_lt g) hown
  clear hown0 hgrow0 hown
  go_wp2
  go_loop [21] (fun i => i = .int .i64 0) (fun _ => 0)
  case atStart => rfl
  case round =>
    subst hrel
    go_wp2
    go_ret2
    exact ⟨rfl, hnx⟩

theorem untext_arg (ao : Option Addr) (len cap : Nat) (n : Int) (w : World) (hlen : len * 8 ≤ 140737488351232) (h : n < 0 ∨ 8 * (len : Int) < n) :
    Calls Try.prog 52 #[.slice ao len cap, .int .i64 n] w fun e w' => e = .returned (.tuple #[.string ⟨#[]⟩, .int .i64 1]) ∧ w' = w := by
  rcases h with h | h
  · go_enter Try.func52, Try.ntmps52
    go_wp2
    go_ret2
    exact ⟨rfl, rfl⟩
  · have h' : ¬ n < 0 := by omega
    go_enter Try.func52, Try.ntmps52
    go_wp2
    go_ret2
    exact ⟨rfl, rfl⟩


end Go.Proofs.Ytdjnkibnnjobpaa.Wd

namespace Go.Proofs.Ytdjnkibnnjobpaa.Wd
open Go.RowKit

theorem bAt_out (s : ByteArray) (i : Nat) (h : s.size ≤ i) : bAt s i = 0 := by unfold bAt; rw [dif_neg (by omega)]
theorem byte_tw (b : Nat → Nat) (hb : ∀ k, b k < 256) (k i : Nat) : byteF (tw b k) i = if i < k then b i else 0 := by
  refine Nat.eq_of_testBit_eq fun t => ?_
  unfold byteF
  rw [getN_bit, tw_bit b hb]
  by_cases ht : t < 8
  · have e1 : i % 8 * 8 + t < 64 := by omega
    have e2 : 8 * (i / 8) + (i % 8 * 8 + t) / 8 = i := by omega
    have e3 : (i % 8 * 8 + t) % 8 = t := by omega
    rw [e2, e3]
    by_cases hk : i < k
    · simp [ht, e1, hk]
    · simp [hk]
  · by_cases hk : i < k
    · rw [if_pos hk, byte_bit _ _ (hb i) (by omega)]; simp [ht]
    · rw [if_neg hk]; simp [ht]
theorem byte_text (s : ByteArray) (i : Nat) : byteF (tw (bAt s) s.size) i = bAt s i := by
  rw [byte_tw (bAt s) (bAt_lt s)]
  split
  · rfl
  · rw [bAt_out s i (by omega)]
theorem mkB_size (f : Nat → Nat) (n : Nat) : (mkB f n).size = n := by
  show (listB f n).toArray.size = n
  simp [listB_len]
theorem mkB_at (f : Nat → Nat) (hf : ∀ i, f i < 256) (n i : Nat) (h : i < (mkB f n).size) : ((mkB f n)[i]).toNat = f i := by
  rw [mkB_size] at h
  have := listB_at f hf n i (by rw [listB_len]; exact h)
  rw [← this]
  rfl
theorem bAt_mkB (f : Nat → Nat) (hf : ∀ i, f i < 256) (n i : Nat) (h : i < n) : bAt (mkB f n) i = f i := by
  rw [bAt_eq _ _ (by rw [mkB_size]; exact h), mkB_at f hf]
theorem ext_bAt (a b : ByteArray) (h : a.size = b.size) (he : ∀ i, i < a.size → bAt a i = bAt b i) : a = b := by
  apply ByteArray.ext
  apply Array.ext
  · exact h
  · intro i h1 h2
    have h3 := he i h1
    rw [bAt_eq a i h1, bAt_eq b i h2] at h3
    exact UInt8.toNat_inj.1 h3
theorem mkB_bAt (s : ByteArray) : mkB (bAt s) s.size = s :=
  ext_bAt _ _ (mkB_size _ _) fun i hi => bAt_mkB _ (bAt_lt s) _ _ (by rwa [mkB_size] at hi)
theorem mkB_congr {f g : Nat → Nat} {n : Nat} (h : ∀ i, i < n → f i = g i) : mkB f n = mkB g n := by
  unfold mkB listB
  congr 2
  exact List.map_congr_left fun i hi => by rw [h i (List.mem_range.1 hi)]
theorem ext_mkB {s : ByteArray} {f : Nat → Nat} {n : Nat} (hf : ∀ i, f i < 256) (h : s.size = n) (he : ∀ i, i < n → bAt s i = f i) : s = mkB f n :=
  ext_bAt _ _ (by rw [mkB_size]; exact h) fun i hi => by rw [he i (by omega), bAt_mkB f hf n i (by omega)]
theorem bAt_extract (s : ByteArray) (a b i : Nat) (hb : b ≤ s.size) (hi : a + i < b) : bAt (s.extract a b) i = bAt s (a + i) := by
  rw [bAt_eq _ _ (by rw [ByteArray.size_extract]; omega), bAt_eq _ _ (by omega), ByteArray.getElem_extract]
theorem bAt_append (s t : ByteArray) (i : Nat) : bAt (s ++ t) i = if i < s.size then bAt s i else bAt t (i - s.size) := by
  by_cases h : i < s.size
  · rw [if_pos h, bAt_eq _ _ (by rw [ByteArray.size_append]; omega), bAt_eq _ _ h, ByteArray.getElem_append_left]
  · rw [if_neg h]
    by_cases h2 : i < s.size + t.size
    · rw [bAt_eq _ _ (by rw [ByteArray.size_append]; omega), bAt_eq _ _ (by omega), ByteArray.getElem_append_right (by omega)]
    · rw [bAt_out _ _ (by rw [ByteArray.size_append]; omega), bAt_out _ _ (by omega)]
theorem zero_text (n : Nat) : (⟨(Lib.repeatL (ByteArray.mk #[0]).data.toList n).toArray⟩ : ByteArray) = mkB (fun _ => 0) n := by
  unfold mkB listB
  congr 2
  have e : (ByteArray.mk #[0]).data.toList = List.replicate 1 (0 : UInt8) := rfl
  rw [e, Lib.repeatL_replicate, Nat.mul_one]
  apply List.ext_getElem
  · simp
  · intro i h1 h2
    simp

/-- A text with other bytes from one on. -/
def putS (s : ByteArray) (k : Nat) (d : ByteArray) : ByteArray := s.extract 0 k ++ d ++ s.extract (k + d.size) s.size
theorem putS_size (s : ByteArray) (k : Nat) (d : ByteArray) (h : k + d.size ≤ s.size) : (putS s k d).size = s.size := by
  unfold putS
  rw [ByteArray.size_append, ByteArray.size_append, ByteArray.size_extract, ByteArray.size_extract]
  omega
theorem putS_at (s : ByteArray) (k : Nat) (d : ByteArray) (h : k + d.size ≤ s.size) (i : Nat) (hi : i < s.size) : bAt (putS s k d) i = if k ≤ i ∧ i < k + d.size then bAt d (i - k) else bAt s i := by
  unfold putS
  rw [bAt_append, bAt_append, ByteArray.size_append, ByteArray.size_extract]
  have e : min k s.size - 0 = k := by omega
  rw [e]
  by_cases h1 : i < k
  · rw [if_pos (by omega), if_pos h1, if_neg (by omega), bAt_extract _ _ _ _ (by omega) (by omega), Nat.zero_add]
  · by_cases h2 : i < k + d.size
    · rw [if_pos h2, if_neg h1, if_pos ⟨by omega, h2⟩]
    · rw [if_neg h2, if_neg (by omega), bAt_extract _ _ _ _ (Nat.le_refl _) (by omega)]
      congr 1
      omega

end Go.Proofs.Ytdjnkibnnjobpaa.Wd
