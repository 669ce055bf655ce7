/- Plain mathematics of float64's bits: where a word stands in the document's order, and what the six comparisons of floats say of it. -/
import Ieee.Arith
namespace Go.Proofs.YtnebmbabfghlaaaDoor
open Ieee

/-- The bits but the sign, read as a number. -/
def rung (x : Nat) : Nat := x % 2 ^ 63
def negB (x : Nat) : Bool := x / 2 ^ 63 % 2 == 1
/-- No number? -/
def nanB (x : Nat) : Bool := decide (9218868437227405312 < rung x)
/-- The number's rung with its sign; both noughts are 0. -/
def vI (x : Nat) : Int := if negB x then -(rung x : Int) else (rung x : Int)
/-- The place in the document's order. -/
def K (x : Nat) : Int := if nanB x then -18446744073709551616 else if negB x then -(rung x : Int) - 1 else (rung x : Int)

/-- The magnitude of a rung, in units of the least place. -/
def mag (r : Nat) : Nat := if r < 2 ^ 52 then r else (2 ^ 52 + r % 2 ^ 52) * 2 ^ (r / 2 ^ 52 - 1)

theorem mag_lt {r s : Nat} (h : r < s) : mag r < mag s := by
  unfold mag
  by_cases hr : r < 2 ^ 52
  · by_cases hs : s < 2 ^ 52
    · rw [if_pos hr, if_pos hs]; exact h
    · rw [if_pos hr, if_neg hs]
      have h1 : 0 < 2 ^ (s / 2 ^ 52 - 1) := Nat.two_pow_pos _
      have h2 : 2 ^ 52 + s % 2 ^ 52 ≤ (2 ^ 52 + s % 2 ^ 52) * 2 ^ (s / 2 ^ 52 - 1) := Nat.le_mul_of_pos_right _ h1
      omega
  · have hs : ¬ s < 2 ^ 52 := by omega
    rw [if_neg hr, if_neg hs]
    by_cases hq : r / 2 ^ 52 = s / 2 ^ 52
    · rw [hq]
      exact Nat.mul_lt_mul_of_pos_right (by omega) (Nat.two_pow_pos _)
    · have hlt : r / 2 ^ 52 < s / 2 ^ 52 := by omega
      have h1 : (2 ^ 52 + r % 2 ^ 52) * 2 ^ (r / 2 ^ 52 - 1) < (2 ^ 52 * 2) * 2 ^ (r / 2 ^ 52 - 1) := Nat.mul_lt_mul_of_pos_right (by omega) (Nat.two_pow_pos _)
      have h2 : (2 ^ 52 * 2) * 2 ^ (r / 2 ^ 52 - 1) ≤ 2 ^ 52 * 2 ^ (s / 2 ^ 52 - 1) := by
        rw [Nat.mul_assoc, ← Nat.pow_succ']
        exact Nat.mul_le_mul_left _ (Nat.pow_le_pow_right (by omega) (by omega))
      have h3 : 2 ^ 52 * 2 ^ (s / 2 ^ 52 - 1) ≤ (2 ^ 52 + s % 2 ^ 52) * 2 ^ (s / 2 ^ 52 - 1) := Nat.mul_le_mul_right _ (by omega)
      omega

theorem cmp_nat_of {a b c d : Nat} (h1 : a < b → c < d) (h2 : a = b → c = d) (h3 : b < a → d < c) : compare c d = compare a b := by
  rcases Nat.lt_trichotomy a b with h | h | h
  · rw [Nat.compare_eq_lt.2 h, Nat.compare_eq_lt.2 (h1 h)]
  · rw [Nat.compare_eq_eq.2 h, Nat.compare_eq_eq.2 (h2 h)]
  · rw [Nat.compare_eq_gt.2 h, Nat.compare_eq_gt.2 (h3 h)]
theorem cmp_of {a b c d : Int} (h1 : a < b → c < d) (h2 : a = b → c = d) (h3 : b < a → d < c) : compare c d = compare a b := by
  have lt : ∀ x y : Int, x < y → compare x y = .lt := fun x y h => by simp [compare, compareOfLessAndEq, h]
  have eq : ∀ x y : Int, x = y → compare x y = .eq := fun x y h => by subst h; simp [compare, compareOfLessAndEq]
  have gt : ∀ x y : Int, y < x → compare x y = .gt := fun x y h => by
    have h1 : ¬ x < y := by omega
    have h2 : ¬ x = y := by omega
    simp [compare, compareOfLessAndEq, h1, h2]
  rcases Int.lt_trichotomy a b with h | h | h
  · rw [lt _ _ h, lt _ _ (h1 h)]
  · rw [eq _ _ h, eq _ _ (h2 h)]
  · rw [gt _ _ h, gt _ _ (h3 h)]

theorem sgn (neg : Bool) (m u : Nat) : signed neg m u = (if neg then -((m * 2 ^ u : Nat) : Int) else ((m * 2 ^ u : Nat) : Int)) := by
  unfold signed; rw [Nat.shiftLeft_eq]

/-- A finite word's magnitude and place. -/
theorem read_fin {x : Nat} (h : rung x < 9218868437227405312) : ∃ m : Nat, ∃ p : Nat, double.read x = .number (negB x) m (double.leastPlace + p) ∧ m * 2 ^ p = mag (rung x) := by
  have hs : double.signWeight = 2 ^ 63 := rfl
  have hb : double.binade = 2 ^ 52 := rfl
  have hi : double.infRung = 9218868437227405312 := by decide
  unfold Format.read
  simp only [hs, hb, hi]
  show ∃ m p, (if rung x < 2 ^ 52 then _ else _) = _ ∧ _
  by_cases h1 : rung x < 2 ^ 52
  · refine ⟨rung x, 0, ?_, ?_⟩
    · rw [if_pos h1]; simp only [Int.natCast_zero, Int.add_zero]; rfl
    · unfold mag; rw [if_pos h1]; omega
  · refine ⟨2 ^ 52 + rung x % 2 ^ 52, rung x / 2 ^ 52 - 1, ?_, ?_⟩
    · rw [if_neg h1]
      show (if rung x < _ then _ else _) = _
      rw [if_pos h]; rfl
    · unfold mag; rw [if_neg h1]
theorem read_inf {x : Nat} (h : rung x = 9218868437227405312) : double.read x = .infinity (negB x) := by
  have hs : double.signWeight = 2 ^ 63 := rfl
  have hb : double.binade = 2 ^ 52 := rfl
  have hi : double.infRung = 9218868437227405312 := by decide
  unfold Format.read
  simp only [hs, hb, hi]
  show (if rung x < 2 ^ 52 then _ else if rung x < _ then _ else if rung x = _ then _ else _) = _
  rw [if_neg (by omega), if_neg (by omega), if_pos h]; rfl
theorem read_nan {x : Nat} (h : 9218868437227405312 < rung x) : ∃ t, double.read x = .nan (negB x) t := by
  have hs : double.signWeight = 2 ^ 63 := rfl
  have hb : double.binade = 2 ^ 52 := rfl
  have hi : double.infRung = 9218868437227405312 := by decide
  unfold Format.read
  simp only [hs, hb, hi]
  show ∃ t, (if rung x < 2 ^ 52 then _ else if rung x < _ then _ else if rung x = _ then _ else _) = _
  rw [if_neg (by omega), if_neg (by omega), if_neg (by omega)]
  exact ⟨_, rfl⟩

theorem order_fin (s t : Bool) (m n p q : Nat) (l : Int) :
    (Datum.number s m (l + p)).order (.number t n (l + q)) = some (compare (if s then -((m * 2 ^ p : Nat) : Int) else ((m * 2 ^ p : Nat) : Int)) (if t then -((n * 2 ^ q : Nat) : Int) else ((n * 2 ^ q : Nat) : Int))) := by
  unfold Datum.order
  simp only [sgn]
  congr 1
  have e1 : (l + p - min (l + p) (l + q)).toNat = p - min p q := by omega
  have e2 : (l + q - min (l + p) (l + q)).toNat = q - min p q := by omega
  rw [e1, e2]
  have f1 : m * 2 ^ p = m * 2 ^ (p - min p q) * 2 ^ (min p q) := by
    rw [Nat.mul_assoc, ← Nat.pow_add]; congr 2; omega
  have f2 : n * 2 ^ q = n * 2 ^ (q - min p q) * 2 ^ (min p q) := by
    rw [Nat.mul_assoc, ← Nat.pow_add]; congr 2; omega
  have hp : 0 < 2 ^ (min p q) := Nat.two_pow_pos _
  rw [f1, f2]
  generalize m * 2 ^ (p - min p q) = a
  generalize n * 2 ^ (q - min p q) = b
  generalize 2 ^ (min p q) = c at hp
  have key : ∀ x y : Nat, x < y → x * c < y * c := fun x y h => Nat.mul_lt_mul_of_pos_right h hp
  have key2 : ∀ x y : Nat, x * c < y * c → x < y := fun x y h => Nat.lt_of_mul_lt_mul_right h
  have hz : ∀ x : Nat, x * c = 0 → x = 0 := fun x h => by
    rcases Nat.mul_eq_zero.1 h with h | h
    · exact h
    · omega
  symm
  refine cmp_of ?_ ?_ ?_
  all_goals (
    have k1 := key a b; have k2 := key b a; have z1 := hz a; have z2 := hz b
    have z3 : a = 0 → a * c = 0 := fun h => by rw [h, Nat.zero_mul]
    have z4 : b = 0 → b * c = 0 := fun h => by rw [h, Nat.zero_mul]
    have z5 : a = b → a * c = b * c := fun h => by rw [h]
    generalize a * c = ac at *
    generalize b * c = bc at *
    cases s <;> cases t <;> simp only [if_true, if_false, Bool.false_eq_true] <;> intro h <;> omega)

theorem nanB_iff {x : Nat} : nanB x = true ↔ 9218868437227405312 < rung x := by unfold nanB; simp

/-- The comparison of two words, none of which is a NaN: by the signed rungs. -/
theorem order_num {a b : Nat} (ha : nanB a = false) (hb : nanB b = false) : double.order a b = some (compare (vI a) (vI b)) := by
  have ha' : rung a ≤ 9218868437227405312 := by
    have := nanB_iff (x := a); rw [ha] at this; simp at this; exact this
  have hb' : rung b ≤ 9218868437227405312 := by
    have := nanB_iff (x := b); rw [hb] at this; simp at this; exact this
  unfold Format.order vI
  have cmpI : ∀ {p q : Int}, p < q → compare p q = .lt := fun {p q} h => by simp [compare, compareOfLessAndEq, h]
  have cmpG : ∀ {p q : Int}, q < p → compare p q = .gt := fun {p q} h => by
    have h1 : ¬ p < q := by omega
    have h2 : ¬ p = q := by omega
    simp [compare, compareOfLessAndEq, h1, h2]
  have cmpE : ∀ {p q : Int}, p = q → compare p q = .eq := fun {p q} h => by subst h; simp [compare, compareOfLessAndEq]
  rcases Nat.lt_or_ge (rung a) 9218868437227405312 with h1 | h1
  · obtain ⟨m, p, e1, v1⟩ := read_fin h1
    rcases Nat.lt_or_ge (rung b) 9218868437227405312 with h2 | h2
    · obtain ⟨n, q, e2, v2⟩ := read_fin h2
      rw [e1, e2, order_fin, v1, v2]
      congr 1
      have k1 : rung a < rung b → mag (rung a) < mag (rung b) := fun h => mag_lt h
      have k2 : rung b < rung a → mag (rung b) < mag (rung a) := fun h => mag_lt h
      have k3 : rung a = rung b → mag (rung a) = mag (rung b) := fun h => by rw [h]
      have k4 : 0 < rung a → mag 0 < mag (rung a) := fun h => mag_lt h
      have k5 : 0 < rung b → mag 0 < mag (rung b) := fun h => mag_lt h
      have k6 : mag 0 = 0 := rfl
      have k7 : rung a = 0 → mag (rung a) = mag 0 := fun h => by rw [h]
      have k8 : rung b = 0 → mag (rung b) = mag 0 := fun h => by rw [h]
      generalize mag (rung a) = x at *
      generalize mag (rung b) = y at *
      refine cmp_of ?_ ?_ ?_ <;> cases negB a <;> cases negB b <;> simp only [if_true, if_false, Bool.false_eq_true] <;> intro h <;> omega
    · have h2' : rung b = 9218868437227405312 := by omega
      rw [e1, read_inf h2']
      show some (if negB b then Ordering.gt else .lt) = _
      congr 1
      cases negB b
      · simp only [Bool.false_eq_true, if_false]; rw [cmpI (by split <;> omega)]
      · simp only [if_true]; rw [cmpG (by split <;> omega)]
  · have h1' : rung a = 9218868437227405312 := by omega
    rw [read_inf h1']
    rcases Nat.lt_or_ge (rung b) 9218868437227405312 with h2 | h2
    · obtain ⟨n, q, e2, v2⟩ := read_fin h2
      rw [e2]
      show some (if negB a then Ordering.lt else .gt) = _
      congr 1
      cases negB a
      · simp only [Bool.false_eq_true, if_false]; rw [cmpG (by split <;> omega)]
      · simp only [if_true]; rw [cmpI (by split <;> omega)]
    · have h2' : rung b = 9218868437227405312 := by omega
      rw [read_inf h2']
      show some (compare (negB b).toNat (negB a).toNat) = _
      congr 1
      rw [h1', h2']
      cases negB a <;> cases negB b
      · rw [if_neg (by simp), cmpE rfl]; rfl
      · rw [if_neg (by simp), if_pos rfl, cmpG (by omega)]; rfl
      · rw [if_pos rfl, if_neg (by simp), cmpI (by omega)]; rfl
      · rw [if_pos rfl, cmpE rfl]; rfl

theorem order_nan {a b : Nat} (h : nanB a = true ∨ nanB b = true) : double.order a b = none := by
  unfold Format.order
  rcases h with h | h
  · obtain ⟨t, e⟩ := read_nan (nanB_iff.1 h)
    rw [e]; unfold Datum.order; rfl
  · obtain ⟨t, e⟩ := read_nan (nanB_iff.1 h)
    rw [e]; cases double.read a <;> rfl

theorem cmp_self (x : Int) : compare x x = .eq := by simp [compare, compareOfLessAndEq]

/-- 'x != x'. -/
theorem neq_self (x : Nat) : (double.order x x != some .eq) = nanB x := by
  cases h : nanB x
  · rw [order_num h h, cmp_self]; rfl
  · rw [order_nan (.inl h)]; rfl

/-- Ahead, by the places. -/
def ah (a b : Nat) : Bool := decide (K a < K b)

theorem lt_iff {a b : Nat} (ha : nanB a = false) (hb : nanB b = false) : (double.order a b == some .lt) = decide (vI a < vI b) := by
  rw [order_num ha hb]
  by_cases h : vI a < vI b
  · have : compare (vI a) (vI b) = .lt := by simp [compare, compareOfLessAndEq, h]
    rw [this]; simp [h]
  · have : compare (vI a) (vI b) ≠ .lt := by
      simp only [compare, compareOfLessAndEq, if_neg h]
      split <;> simp
    simp [h, this]
theorem eq_iff {a b : Nat} (ha : nanB a = false) (hb : nanB b = false) : (double.order a b == some .eq) = decide (vI a = vI b) := by
  rw [order_num ha hb]
  by_cases h : vI a = vI b
  · rw [h, cmp_self]; simp
  · have : compare (vI a) (vI b) ≠ .eq := by
      simp only [compare, compareOfLessAndEq]
      split
      · simp
      · simp
    simp [h, this]

theorem ah_nan_l {a b : Nat} (h : nanB a = true ∨ nanB b = true) : ah a b = (nanB a && !nanB b) := by
  have hr : rung a < 2 ^ 63 := Nat.mod_lt _ (by omega)
  have hr2 : rung b < 2 ^ 63 := Nat.mod_lt _ (by omega)
  unfold ah K
  cases ha : nanB a <;> cases hb : nanB b <;> rw [ha, hb] at h <;> simp at h <;> simp only [if_true, if_false, Bool.false_eq_true]
  · have : ¬ ((if negB a = true then -(rung a : Int) - 1 else (rung a : Int)) < -18446744073709551616) := by split <;> omega
    simp [this]
  · have : ((-18446744073709551616 : Int) < if negB b = true then -(rung b : Int) - 1 else (rung b : Int)) := by split <;> omega
    simp [this]
  · simp
theorem ah_zero {a b : Nat} (ha : nanB a = false) (hb : nanB b = false) (h1 : vI a = 0) (h2 : vI b = 0) : ah a b = (negB a && !negB b) := by
  unfold vI at h1 h2
  unfold ah K
  rw [ha, hb]
  cases hna : negB a <;> cases hnb : negB b <;> rw [hna] at h1 <;> rw [hnb] at h2 <;> simp only [if_true, if_false, Bool.false_eq_true] at h1 h2 ⊢
  all_goals (simp; try omega)
theorem ah_num {a b : Nat} (ha : nanB a = false) (hb : nanB b = false) (h : ¬ (vI a = 0 ∧ vI b = 0)) : ah a b = decide (vI a < vI b) := by
  unfold vI at h ⊢
  unfold ah K
  rw [ha, hb]
  congr 1
  apply propext
  cases hna : negB a <;> cases hnb : negB b <;> rw [hna, hnb] at h <;> simp only [if_true, if_false, Bool.false_eq_true] at h ⊢ <;> omega

/-- The same: the same bits, or both no numbers. -/
def sameB (a b : Nat) : Bool := (a == b) || (nanB a && nanB b)
theorem same_iff {a b : Nat} (ha : a < 2 ^ 64) (hb : b < 2 ^ 64) : sameB a b = true ↔ K a = K b := by
  have hr : rung a < 2 ^ 63 := Nat.mod_lt _ (by omega)
  have hr2 : rung b < 2 ^ 63 := Nat.mod_lt _ (by omega)
  have ea : a = 2 ^ 63 * (a / 2 ^ 63) + rung a := by unfold rung; omega
  have eb : b = 2 ^ 63 * (b / 2 ^ 63) + rung b := by unfold rung; omega
  have qa : a / 2 ^ 63 < 2 := by omega
  have qb : b / 2 ^ 63 < 2 := by omega
  have na : negB a = decide (a / 2 ^ 63 = 1) := by
    unfold negB; rw [Bool.eq_iff_iff]; simp; omega
  have nb : negB b = decide (b / 2 ^ 63 = 1) := by
    unfold negB; rw [Bool.eq_iff_iff]; simp; omega
  unfold sameB K
  constructor
  · intro h
    simp only [Bool.or_eq_true, beq_iff_eq, Bool.and_eq_true] at h
    rcases h with h | h
    · subst h; rfl
    · rw [h.1, h.2]; rfl
  · intro h
    simp only [Bool.or_eq_true, beq_iff_eq, Bool.and_eq_true]
    cases h1 : nanB a <;> cases h2 : nanB b <;> rw [h1, h2] at h <;> simp only [if_true, if_false, Bool.false_eq_true] at h ⊢
    · left
      rw [na, nb] at h
      by_cases x : a / 2 ^ 63 = 1 <;> by_cases y : b / 2 ^ 63 = 1 <;> simp only [x, y, decide_true, decide_false, if_true, if_false, Bool.false_eq_true] at h <;> omega
    · exfalso; split at h <;> omega
    · exfalso; split at h <;> omega
    · right; trivial

end Go.Proofs.YtnebmbabfghlaaaDoor
