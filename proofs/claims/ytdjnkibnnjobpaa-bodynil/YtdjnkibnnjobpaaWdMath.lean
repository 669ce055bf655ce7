/- Plain facts on fields of words and texts as words. Nothing of the program. -/
import Derived.WalkKit
namespace Go.Proofs.Ytdjnkibnnjobpaa.Wd

def getN (w a n : Nat) : Nat := w / 2 ^ a % 2 ^ n
def putN (w a n v : Nat) : Nat := (w &&& (2 ^ 64 - ((2 ^ n - 1) <<< a + 1))) ||| (v <<< a)

theorem mask_lt (a n : Nat) (h : a + n ≤ 64) : (2 ^ n - 1) <<< a < 2 ^ 64 := by
  rw [Nat.shiftLeft_eq]
  have h1 : 2 ^ n * 2 ^ a ≤ 2 ^ 64 := by rw [← Nat.pow_add]; exact Nat.pow_le_pow_right (by omega) (by omega)
  have h2 : 0 < 2 ^ a := Nat.two_pow_pos _
  have h3 : 0 < 2 ^ n := Nat.two_pow_pos _
  have h4 : (2 ^ n - 1) * 2 ^ a < 2 ^ n * 2 ^ a := Nat.mul_lt_mul_of_pos_right (by omega) h2
  omega

theorem getN_bit (w a n i : Nat) : (getN w a n).testBit i = (decide (i < n) && w.testBit (a + i)) := by
  unfold getN
  rw [Nat.testBit_mod_two_pow, Nat.testBit_div_two_pow]
  rw [Nat.add_comm]

theorem putN_bit (w a n v i : Nat) (hw : w < 2 ^ 64) (h : a + n ≤ 64) (hv : v < 2 ^ n) :
    (putN w a n v).testBit i = if a ≤ i ∧ i < a + n then v.testBit (i - a) else w.testBit i := by
  unfold putN
  rw [Nat.testBit_or, Nat.testBit_and, Nat.testBit_two_pow_sub_succ (mask_lt a n h), Nat.testBit_shiftLeft, Nat.testBit_shiftLeft, Nat.testBit_two_pow_sub_one]
  by_cases h1 : a ≤ i
  · by_cases h2 : i < a + n
    · have e : i - a < n := by omega
      simp [h1, h2, e]
    · have e : ¬ i - a < n := by omega
      have e2 : v.testBit (i - a) = false := Nat.testBit_lt_two_pow (Nat.lt_of_lt_of_le hv (Nat.pow_le_pow_right (by omega) (by omega)))
      by_cases h3 : i < 64
      · simp [h1, h2, e, e2, h3]
      · have e3 : w.testBit i = false := Nat.testBit_lt_two_pow (Nat.lt_of_lt_of_le hw (Nat.pow_le_pow_right (by omega) (by omega)))
        simp [h2, e, e2, h3, e3]
  · by_cases h3 : i < 64
    · simp [h1, h3]
    · exfalso; omega

theorem putN_lt (w a n v : Nat) (hw : w < 2 ^ 64) (h : a + n ≤ 64) (hv : v < 2 ^ n) : putN w a n v < 2 ^ 64 := by
  refine Nat.lt_pow_two_of_testBit _ fun i hi => ?_
  rw [putN_bit w a n v i hw h hv, if_neg (by omega)]
  exact Nat.testBit_lt_two_pow (Nat.lt_of_lt_of_le hw (Nat.pow_le_pow_right (by omega) hi))

theorem getN_lt (w a n : Nat) : getN w a n < 2 ^ n := Nat.mod_lt _ (Nat.two_pow_pos _)

theorem getN_le (w a n : Nat) : getN w a n ≤ w := Nat.le_trans (Nat.mod_le _ _) (Nat.div_le_self _ _)

theorem get_put (w a n v : Nat) (hw : w < 2 ^ 64) (h : a + n ≤ 64) (hv : v < 2 ^ n) : getN (putN w a n v) a n = v := by
  refine Nat.eq_of_testBit_eq fun i => ?_
  rw [getN_bit, putN_bit w a n v _ hw h hv]
  by_cases h1 : i < n
  · rw [if_pos (by omega)]; simp [h1]
  · have : v.testBit i = false := Nat.testBit_lt_two_pow (Nat.lt_of_lt_of_le hv (Nat.pow_le_pow_right (by omega) (by omega)))
    simp [h1, this]

theorem put_back (w a n v : Nat) (hw : w < 2 ^ 64) (h : a + n ≤ 64) (hv : v < 2 ^ n) : putN (putN w a n v) a n (getN w a n) = w := by
  refine Nat.eq_of_testBit_eq fun i => ?_
  rw [putN_bit _ a n _ _ (putN_lt w a n v hw h hv) h (getN_lt _ _ _), putN_bit w a n v _ hw h hv, getN_bit]
  by_cases h1 : a ≤ i ∧ i < a + n
  · have e : a + (i - a) = i := by omega
    have e2 : i - a < n := by omega
    rw [if_pos h1, e]; simp [e2]
  · simp [h1]

theorem get_apart (w a n v b m : Nat) (hw : w < 2 ^ 64) (h : a + n ≤ 64) (hv : v < 2 ^ n) (hap : b + m ≤ a ∨ a + n ≤ b) : getN (putN w a n v) b m = getN w b m := by
  refine Nat.eq_of_testBit_eq fun i => ?_
  rw [getN_bit, getN_bit, putN_bit w a n v _ hw h hv]
  by_cases h1 : i < m
  · rw [if_neg (by omega)]
  · simp [h1]

theorem whole (w k : Nat) (hw : w < 2 ^ 64) (hk : k ≤ 64) : putN (putN 0 0 k (getN w 0 k)) k (64 - k) (getN w k (64 - k)) = w := by
  have h0 : putN 0 0 k (getN w 0 k) < 2 ^ 64 := putN_lt 0 0 k _ (by omega) (by omega) (getN_lt _ _ _)
  refine Nat.eq_of_testBit_eq fun i => ?_
  rw [putN_bit _ k (64 - k) _ _ h0 (by omega) (getN_lt _ _ _), putN_bit 0 0 k _ _ (by omega) (by omega) (getN_lt _ _ _), getN_bit, getN_bit]
  by_cases h1 : k ≤ i
  · by_cases h2 : i < 64
    · rw [if_pos (by omega)]
      have e : k + (i - k) = i := by omega
      have e2 : i - k < 64 - k := by omega
      rw [e]; simp [e2]
    · have e3 : w.testBit i = false := Nat.testBit_lt_two_pow (Nat.lt_of_lt_of_le hw (Nat.pow_le_pow_right (by omega) (by omega)))
      rw [if_neg (by omega), if_neg (by omega), e3]; simp
  · rw [if_neg (by omega), if_pos (by omega)]
    have e2 : i < k := by omega
    simp [e2]

theorem get_all (w : Nat) (hw : w < 2 ^ 64) : getN w 0 64 = w := by
  unfold getN; rw [Nat.pow_zero, Nat.div_one]; exact Nat.mod_eq_of_lt hw

/-! ### As integers -/
def getI (w a n : Int) : Int := (getN w.toNat a.toNat n.toNat : Nat)
def putI (w a n v : Int) : Int := (putN w.toNat a.toNat n.toNat v.toNat : Nat)
def onesI (n : Int) : Int := (2 ^ n.toNat - 1 : Nat)
def pow64 : Int := 18446744073709551616

theorem getI_bd (w a n : Int) (h0 : 0 ≤ w) : 0 ≤ getI w a n ∧ getI w a n ≤ w := by
  have := getN_le w.toNat a.toNat n.toNat
  unfold getI; omega

theorem getI_ones (w a n : Int) : getI w a n ≤ onesI n := by
  have := getN_lt w.toNat a.toNat n.toNat
  unfold getI onesI; omega

theorem onesI_bd (n : Int) (h : n ≤ 64) : 0 ≤ onesI n ∧ onesI n ≤ 18446744073709551615 := by
  have h1 : 2 ^ n.toNat ≤ 2 ^ 64 := Nat.pow_le_pow_right (by omega) (by omega)
  unfold onesI; omega

theorem ones_form (n : Int) (h0 : 0 ≤ n) (h1 : n ≤ 64) : (18446744073709551615 : Int) / 2 ^ (64 - n).toNat = onesI n := by
  obtain ⟨N, rfl⟩ := Int.eq_ofNat_of_zero_le h0
  have e : (64 - (N : Int)).toNat = 64 - N := by omega
  have hN : N ≤ 64 := by omega
  rw [e]
  have hp : 0 < 2 ^ (64 - N) := Nat.two_pow_pos _
  have hm : 2 ^ N * 2 ^ (64 - N) = 2 ^ 64 := by rw [← Nat.pow_add]; congr 1; omega
  have : (2 ^ 64 - 1) / 2 ^ (64 - N) = 2 ^ N - 1 := by
    rw [Nat.div_eq_iff hp]
    have hq : 0 < 2 ^ N := Nat.two_pow_pos _
    obtain ⟨q, hq2⟩ : ∃ q, 2 ^ N = q + 1 := ⟨2 ^ N - 1, by omega⟩
    rw [hq2] at hm ⊢
    rw [Nat.add_mul] at hm
    simp only [Nat.add_sub_cancel]
    omega
  unfold onesI
  rw [Int.toNat_natCast, ← this]
  simp

theorem get_form (w a n : Int) (hw0 : 0 ≤ w) (hw : w ≤ 18446744073709551615) (ha : 0 ≤ a) (hn : 0 ≤ n) (h : a + n ≤ 64) :
    ((( w / 2 ^ a.toNat).toNat &&& (onesI n).toNat : Nat) : Int) = getI w a n := by
  obtain ⟨W, rfl⟩ := Int.eq_ofNat_of_zero_le hw0
  obtain ⟨A, rfl⟩ := Int.eq_ofNat_of_zero_le ha
  obtain ⟨N, rfl⟩ := Int.eq_ofNat_of_zero_le hn
  unfold onesI getI getN
  have e : ((W : Int) / 2 ^ (A : Int).toNat).toNat = W / 2 ^ A := by
    rw [Int.toNat_natCast]
    have : ((W : Int) / 2 ^ A) = ((W / 2 ^ A : Nat) : Int) := by simp
    rw [this, Int.toNat_natCast]
  rw [e]
  simp only [Int.toNat_natCast]
  rw [Nat.and_two_pow_sub_one_eq_mod]

theorem get_bits (w a n : Int) (hw0 : 0 ≤ w) (hw : w ≤ 18446744073709551615) (ha : 0 ≤ a) (hn : 0 ≤ n) (h : a + n ≤ 64) :
    bits .and .u64 (w / 2 ^ a.toNat) (onesI n) = getI w a n := by
  have hb := onesI_bd n (by omega)
  have hd0 : 0 ≤ w / 2 ^ a.toNat := Int.ediv_nonneg hw0 (Int.le_of_lt (Int.pow_pos (by decide)))
  have hd1 : w / 2 ^ a.toNat ≤ w := Int.ediv_le_self _ hw0
  rw [u64_and _ _ hd0 (by omega) hb.1 (by omega), get_form w a n hw0 hw ha hn h]

theorem shl_fits (x a n : Nat) (hx : x < 2 ^ n) (h : a + n ≤ 64) : x * 2 ^ a < 2 ^ 64 := by
  have h1 : 2 ^ n * 2 ^ a ≤ 2 ^ 64 := by rw [← Nat.pow_add]; exact Nat.pow_le_pow_right (by omega) (by omega)
  have h4 : x * 2 ^ a < 2 ^ n * 2 ^ a := Nat.mul_lt_mul_of_pos_right hx (Nat.two_pow_pos _)
  omega

theorem wrap_shl (X A N : Nat) (hx : X < 2 ^ N) (h : A + N ≤ 64) : IntKind.u64.wrap ((X : Int) * 2 ^ A) = ((X <<< A : Nat) : Int) := by
  have h1 := shl_fits X A N hx h
  have e : ((X : Int) * 2 ^ A) = ((X * 2 ^ A : Nat) : Int) := by simp
  rw [IntKind.wrap_u64, e, Nat.shiftLeft_eq]
  omega

theorem put_bits (w a n v : Int) (hw0 : 0 ≤ w) (hw : w ≤ 18446744073709551615) (ha : 0 ≤ a) (hn : 0 ≤ n) (h : a + n ≤ 64) (hv0 : 0 ≤ v) (hv : v ≤ onesI n) :
    bits .or .u64 (bits .andNot .u64 w (IntKind.u64.wrap (onesI n * 2 ^ a.toNat))) (IntKind.u64.wrap (v * 2 ^ a.toNat)) = putI w a n v := by
  obtain ⟨W, rfl⟩ := Int.eq_ofNat_of_zero_le hw0
  obtain ⟨A, rfl⟩ := Int.eq_ofNat_of_zero_le ha
  obtain ⟨N, rfl⟩ := Int.eq_ofNat_of_zero_le hn
  obtain ⟨V, rfl⟩ := Int.eq_ofNat_of_zero_le hv0
  have hp : 0 < 2 ^ N := Nat.two_pow_pos _
  have hV : V < 2 ^ N := by unfold onesI at hv; rw [Int.toNat_natCast] at hv; omega
  have hAN : A + N ≤ 64 := by omega
  have hm := mask_lt A N hAN
  unfold onesI putI
  simp only [Int.toNat_natCast]
  rw [wrap_shl (2 ^ N - 1) A N (by omega) hAN, wrap_shl V A N hV hAN]
  have hs : V <<< A < 2 ^ 64 := by rw [Nat.shiftLeft_eq]; exact shl_fits V A N hV hAN
  rw [u64_andNot_nat _ _ (by omega) (by omega)]
  rw [u64_or_nat _ _ (Nat.lt_of_le_of_lt Nat.and_le_left (by omega)) (by omega)]
  unfold putN
  have e : 18446744073709551615 - (2 ^ N - 1) <<< A = 2 ^ 64 - ((2 ^ N - 1) <<< A + 1) := by omega
  rw [e]

theorem putI_bd (w a n v : Int) (hw0 : 0 ≤ w) (hw : w ≤ 18446744073709551615) (ha : 0 ≤ a) (hn : 0 ≤ n) (h : a + n ≤ 64) (_hv0 : 0 ≤ v) (hv : v ≤ onesI n) :
    0 ≤ putI w a n v ∧ putI w a n v ≤ 18446744073709551615 := by
  have hp : 0 < 2 ^ n.toNat := Nat.two_pow_pos _
  have := putN_lt w.toNat a.toNat n.toNat v.toNat (by omega) (by omega) (by unfold onesI at hv; omega)
  unfold putI; omega

/-! ### Texts as words -/
def bAt (s : ByteArray) (k : Nat) : Nat := if h : k < s.size then s[k].toNat else 0
theorem bAt_lt (s : ByteArray) (k : Nat) : bAt s k < 256 := by
  unfold bAt; split
  · exact UInt8.toNat_lt _
  · omega
theorem bAt_eq (s : ByteArray) (k : Nat) (h : k < s.size) : bAt s k = s[k].toNat := by unfold bAt; rw [dif_pos h]

/-- The word j of the first k bytes. -/
def tw (b : Nat → Nat) : Nat → Nat → Nat
  | 0, _ => 0
  | k + 1, j => if k / 8 = j then tw b k j ||| (b k <<< (k % 8 * 8)) else tw b k j

theorem byte_bit (x i : Nat) (hx : x < 256) (hi : 8 ≤ i) : x.testBit i = false :=
  Nat.testBit_lt_two_pow (Nat.lt_of_lt_of_le hx (Nat.pow_le_pow_right (by omega) hi : 2 ^ 8 ≤ 2 ^ i))

theorem tw_bit (b : Nat → Nat) (hb : ∀ k, b k < 256) (k j i : Nat) :
    (tw b k j).testBit i = (decide (i < 64 ∧ 8 * j + i / 8 < k) && (b (8 * j + i / 8)).testBit (i % 8)) := by
  induction k with
  | zero => simp [tw]
  | succ k ih =>
    unfold tw
    by_cases hj : k / 8 = j
    · rw [if_pos hj, Nat.testBit_or, ih, Nat.testBit_shiftLeft]
      by_cases hi : i < 64
      · by_cases h1 : 8 * j + i / 8 = k
        · have e1 : k % 8 * 8 ≤ i := by omega
          have e2 : i - k % 8 * 8 = i % 8 := by omega
          rw [h1]; simp [e1, e2, hi]
        · have e3 : (decide (k % 8 * 8 ≤ i) && (b k).testBit (i - k % 8 * 8)) = false := by
            by_cases h2 : k % 8 * 8 ≤ i
            · rw [byte_bit _ _ (hb k) (by omega)]; simp
            · simp [h2]
          rw [e3]
          have e4 : (8 * j + i / 8 < k + 1) ↔ (8 * j + i / 8 < k) := by omega
          simp [e4]
      · have e3 : (b k).testBit (i - k % 8 * 8) = false := byte_bit _ _ (hb k) (by omega)
        simp [hi, e3]
    · rw [if_neg hj, ih]
      by_cases hi : i < 64
      · have e4 : (8 * j + i / 8 < k + 1) ↔ (8 * j + i / 8 < k) := by omega
        simp [e4]
      · simp [hi]

theorem tw_lt (b : Nat → Nat) (hb : ∀ k, b k < 256) (k j : Nat) : tw b k j < 2 ^ 64 := by
  refine Nat.lt_pow_two_of_testBit _ fun i hi => ?_
  rw [tw_bit b hb]
  have : ¬ i < 64 := by omega
  simp [this]

theorem tw_next (b : Nat → Nat) (k : Nat) : tw b (k + 1) (k / 8) = tw b k (k / 8) ||| (b k <<< (k % 8 * 8)) := by
  rw [tw, if_pos rfl]
theorem tw_same (b : Nat → Nat) (k j : Nat) (h : k / 8 ≠ j) : tw b (k + 1) j = tw b k j := by
  rw [tw, if_neg h]

def rowOf (f : Nat → Nat) (n : Nat) : List Value := (List.range n).map fun j => Value.int .u64 (f j : Nat)

theorem rowOf_len (f : Nat → Nat) (n : Nat) : (rowOf f n).length = n := by simp [rowOf]
theorem rowOf_at (f : Nat → Nat) (n j : Nat) (h : j < n) : (rowOf f n)[j]? = some (.int .u64 (f j : Nat)) := by simp [rowOf, h]
theorem rowOf_set (f g : Nat → Nat) (n q : Nat) (h : ∀ j, j ≠ q → g j = f j) : (rowOf f n).set q (.int .u64 (g q : Nat)) = rowOf g n := by
  apply List.ext_getElem?
  intro j
  rw [List.getElem?_set]
  by_cases hj : j < n
  · by_cases hq : q = j
    · subst hq; rw [rowOf_at g n _ hj, if_pos rfl, rowOf_len, if_pos hj]
    · rw [if_neg hq, rowOf_at f n j hj, rowOf_at g n j hj, h j (by omega)]
  · have e1 : (rowOf f n)[j]? = none := List.getElem?_eq_none (by rw [rowOf_len]; omega)
    have e2 : (rowOf g n)[j]? = none := List.getElem?_eq_none (by rw [rowOf_len]; omega)
    rw [e1, e2, rowOf_len]
    by_cases hq : q = j
    · rw [if_pos hq, if_neg (by omega)]
    · rw [if_neg hq]
theorem rowOf_zero (n : Nat) (f : Nat → Nat) (h : ∀ j, f j = 0) : List.replicate n (Value.int .u64 0) = rowOf f n := by
  apply List.ext_getElem?
  intro j
  by_cases hj : j < n
  · rw [rowOf_at f n j hj, h j]; simp [hj]
  · rw [List.getElem?_eq_none (by simp; omega), List.getElem?_eq_none (by rw [rowOf_len]; omega)]

theorem text_step (s : ByteArray) (k q : Nat) (hk : k < s.size) (hq : q = k / 8) :
    bits .or .u64 ((tw (bAt s) k q : Nat) : Int) (IntKind.u64.wrap (IntKind.u64.wrap ((s[k].toNat : Nat) : Int) * 2 ^ (k % 8 * 8))) = ((tw (bAt s) (k + 1) q : Nat) : Int) := by
  subst hq
  have hb := bAt_lt s
  have e1 : IntKind.u64.wrap ((s[k].toNat : Nat) : Int) = ((bAt s k : Nat) : Int) := by
    rw [bAt_eq s k hk, IntKind.wrap_u64]
    have := UInt8.toNat_lt s[k]
    omega
  have hx : bAt s k < 2 ^ 8 := hb k
  rw [e1, wrap_shl (bAt s k) (k % 8 * 8) 8 hx (by omega)]
  have h1 := tw_lt (bAt s) hb k (k / 8)
  have h2 : bAt s k <<< (k % 8 * 8) < 2 ^ 64 := by rw [Nat.shiftLeft_eq]; exact shl_fits _ _ 8 hx (by omega)
  rw [u64_or_nat _ _ (by omega) (by omega), tw_next]

theorem text_rows (b : Nat → Nat) (k n q : Nat) (hq : q = k / 8) : (rowOf (tw b k) n).set q (.int .u64 ((tw b (k + 1) q : Nat) : Int)) = rowOf (tw b (k + 1)) n :=
  rowOf_set (tw b k) (tw b (k + 1)) n q fun j hj => tw_same b k j (by omega)

end Go.Proofs.Ytdjnkibnnjobpaa.Wd
