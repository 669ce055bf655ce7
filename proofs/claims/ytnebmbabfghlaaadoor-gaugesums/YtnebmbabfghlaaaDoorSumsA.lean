/- Sum, Mean, Ratio and the document's: these bits, or some NaN. -/
import Derived.Test.YtnebmbabfghlaaaDoorReads
import Derived.Laws.FloatArith
import Derived.Deep.LoopGhost
namespace Go.Proofs.YtnebmbabfghlaaaDoor
open Go.RowKit

/-- What an arithmetic operation of two floats gives at a world: its bits, or a NaN that is drawn. -/
def arR (op : BinOp) (x y : Nat) (w : World) : Nat :=
  match floatBits op .f64 x y with
  | some r => r
  | none => (Question.nanBits .f64 x y).cut (w.tape w.drawn (Question.nanBits .f64 x y))
def arQ (op : BinOp) (x y : Nat) : Nat := match floatBits op .f64 x y with | some _ => 0 | none => 1

theorem run_add (t : TypeId) (x y : Nat) (w : World) : (binOp .add t (.float .f64 x) (.float .f64 y)).run Tryd.prog w = .ok (.float .f64 (arR .add x y w)) (w.drewN (arQ .add x y)) := by
  cases h : floatBits .add .f64 x y with
  | some r => rw [run_float_arith w .add t .f64 x y r h]; simp [arR, arQ, h, World.drewN_zero]
  | none =>
    have h2 : FloatKind.f64.format.add x y = none := h
    simp [binOp, Op.floatArith, h2, arR, arQ, h, Question.forced]; rfl
theorem run_quo (t : TypeId) (x y : Nat) (w : World) : (binOp .quo t (.float .f64 x) (.float .f64 y)).run Tryd.prog w = .ok (.float .f64 (arR .quo x y w)) (w.drewN (arQ .quo x y)) := by
  cases h : floatBits .quo .f64 x y with
  | some r => rw [run_float_arith w .quo t .f64 x y r h]; simp [arR, arQ, h, World.drewN_zero]
  | none =>
    have h2 : FloatKind.f64.format.div x y = none := h
    simp [binOp, Op.floatArith, h2, arR, arQ, h, Question.forced]; rfl

/-- The bits that a value of that kind may have: those, or any NaN's. -/
def Num (o : Option Nat) (r : Nat) : Prop := match o with | some v => r = v | none => nanB r = true
theorem cut_nan (x y t : Nat) : nanB ((Question.nanBits .f64 x y).cut t) = true := by
  rw [nanB_iff]
  show 9218868437227405312 < ((t % 2) * 2 ^ 63 + 0x7ff0000000000000 + 1 + (t / 2) % (2 ^ 52 - 1)) % 2 ^ 63
  have h1 : t / 2 % (2 ^ 52 - 1) < 2 ^ 52 - 1 := Nat.mod_lt _ (by decide)
  generalize t / 2 % (2 ^ 52 - 1) = u at *
  rcases Nat.mod_two_eq_zero_or_one t with h | h <;> rw [h] <;> omega
theorem arR_num (op : BinOp) (x y : Nat) (w : World) : Num (floatBits op .f64 x y) (arR op x y w) := by
  unfold arR
  cases h : floatBits op .f64 x y with
  | some r => rfl
  | none => exact cut_nan x y _
theorem add_nan {x : Nat} (y : Nat) (h : nanB x = true) : floatBits .add .f64 x y = none := by
  show Ieee.Format.add Ieee.double x y = none
  unfold Ieee.Format.add
  obtain ⟨t, e⟩ := read_nan (nanB_iff.1 h)
  rw [e]; rfl
theorem quo_nan {x : Nat} (y : Nat) (h : nanB x = true) : floatBits .quo .f64 x y = none := by
  show Ieee.Format.div Ieee.double x y = none
  unfold Ieee.Format.div
  obtain ⟨t, e⟩ := read_nan (nanB_iff.1 h)
  rw [e]; rfl
def addO (o : Option Nat) (x : Nat) : Option Nat := o.bind fun s => floatBits .add .f64 s x
def quoO (o : Option Nat) (x : Nat) : Option Nat := o.bind fun s => floatBits .quo .f64 s x
theorem num_add {o : Option Nat} {s : Nat} (h : Num o s) (x : Nat) (w : World) : Num (addO o x) (arR .add s x w) := by
  cases o with
  | some v => obtain rfl : s = v := h; exact arR_num .add s x w
  | none => have := arR_num .add s x w; rw [add_nan x h] at this; exact this
theorem num_quo {o : Option Nat} {s : Nat} (h : Num o s) (x : Nat) (w : World) : Num (quoO o x) (arR .quo s x w) := by
  cases o with
  | some v => obtain rfl : s = v := h; exact arR_num .quo s x w
  | none => have := arR_num .quo s x w; rw [quo_nan x h] at this; exact this
theorem num_same {o : Option Nat} {a b : Nat} (ha : Num o a) (hb : Num o b) : sameB a b = true := by
  cases o with
  | some v => obtain rfl : a = v := ha; obtain rfl : b = a := hb; simp [sameB]
  | none => have h1 : nanB a = true := ha; have h2 : nanB b = true := hb; simp [sameB, h1, h2]

def sumO (xs : List Nat) : Option Nat := xs.foldl addO (some 0)
theorem sum_step (xs : List Nat) (k : Nat) (h : k < xs.length) : sumO (xs.take (k + 1)) = addO (sumO (xs.take k)) (nth xs k) := by
  rw [take_snoc xs k h]; unfold sumO; rw [List.foldl_append]; rfl
theorem sum_all (xs : List Nat) (k : Nat) (h : ¬ k < xs.length) : sumO (xs.take k) = sumO xs := by rw [List.take_of_length_le (by omega)]

attribute [local go_sem] run_add run_quo
set_option maxHeartbeats 1000000 in
theorem sum_any (a : Option Addr) (cap n : Nat) (xs : List Nat) (w : World) (h : FAt w a xs) (hn : xs.length = n) :
    Calls Tryd.prog 23 #[.slice a n cap] w fun e w' => ∃ r, e = .returned (.float .f64 r) ∧ Num (sumO xs) r ∧ Below w.heap.size w w' := by
  have H : Hid (FAt w a xs) := h
  have HN : Hid (xs.length = n) := hn
  have hl : n ≤ 100 := by have := h.1; omega
  clear h hn
  go_enter Tryd.func23, Tryd.ntmps23
  go_wp2
  go_loopg [3, 5, 8] n (fun q s _ i wr => ∃ k r : Nat, k + q = n ∧ i = .int .i64 k ∧ s = .float .f64 r ∧ Aside (Num (sumO (xs.take k)) r) ∧ Below w.heap.size w wr)
  case atStart => exact ⟨0, 0, by omega, rfl, rfl, rfl, Below.refl _ _⟩
  case round =>
    obtain ⟨k, r, hq, rfl, rfl, hr, hb⟩ := hrel
    cases gk with
    | succ q =>
      have hin : k < n := by omega
      have hini : (k : Int) < (n : Int) := by omega
      obtain ⟨ba, oa, rfl, hba, hca⟩ := (H.out.below hb (Nat.le_refl _)).at_ (by rw [HN.out]; omega)
      have ci := hca k (by rw [HN.out]; exact hin)
      clear hca
      go_wp2
      go_roundg q
      case measure => omega
      case rel =>
        refine ⟨k + 1, _, by omega, by go_num, rfl, ?_, below_drewN hb _⟩
        show Num _ _
        rw [sum_step xs k (by rw [HN.out]; exact hin)]
        exact num_add hr.out _ _
    | zero =>
      obtain rfl : k = n := by omega
      go_wp2
      go_ret
      refine ⟨r, rfl, ?_, hb⟩
      rw [← sum_all xs k (by rw [HN.out]; omega)]
      exact hr.out

set_option maxHeartbeats 1000000 in
theorem refSum_any (a : Option Addr) (cap n : Nat) (xs : List Nat) (w : World) (h : FAt w a xs) (hn : xs.length = n) :
    Calls Tryd.prog 24 #[.slice a n cap] w fun e w' => ∃ r, e = .returned (.float .f64 r) ∧ Num (sumO xs) r ∧ Below w.heap.size w w' := by
  have H : Hid (FAt w a xs) := h
  have HN : Hid (xs.length = n) := hn
  have hl : n ≤ 100 := by have := h.1; omega
  clear h hn
  go_enter Tryd.func24, Tryd.ntmps24
  go_wp2
  go_loopg [3, 4] n (fun q s i wr => ∃ k r : Nat, k + q = n ∧ i = .int .i64 k ∧ s = .float .f64 r ∧ Aside (Num (sumO (xs.take k)) r) ∧ Below w.heap.size w wr)
  case atStart => exact ⟨0, 0, by omega, rfl, rfl, rfl, Below.refl _ _⟩
  case round =>
    obtain ⟨k, r, hq, rfl, rfl, hr, hb⟩ := hrel
    cases gk with
    | succ q =>
      have hin : k < n := by omega
      have hini : (k : Int) < (n : Int) := by omega
      obtain ⟨ba, oa, rfl, hba, hca⟩ := (H.out.below hb (Nat.le_refl _)).at_ (by rw [HN.out]; omega)
      have ci := hca k (by rw [HN.out]; exact hin)
      clear hca
      go_wp2
      go_roundg q
      case measure => omega
      case rel =>
        refine ⟨k + 1, _, by omega, by go_num, rfl, ?_, below_drewN hb _⟩
        show Num _ _
        rw [sum_step xs k (by rw [HN.out]; exact hin)]
        exact num_add hr.out _ _
    | zero =>
      obtain rfl : k = n := by omega
      go_wp2
      go_ret
      refine ⟨r, rfl, ?_, hb⟩
      rw [← sum_all xs k (by rw [HN.out]; omega)]
      exact hr.out

/-- The document's Mean: of none, no number. -/
def meanO (xs : List Nat) : Option Nat := quoO (sumO xs) (floatOfInt .f64 xs.length)
theorem mean_none : meanO [] = none := by decide +kernel

set_option maxHeartbeats 1000000 in
theorem mean_any (a : Option Addr) (cap n : Nat) (xs : List Nat) (w : World) (h : FAt w a xs) (hn : xs.length = n) :
    Calls Tryd.prog 25 #[.slice a n cap] w fun e w' => ∃ r, e = .returned (.float .f64 r) ∧ Num (meanO xs) r ∧ Below w.heap.size w w' := by
  have hl : n ≤ 100 := by have := h.1; omega
  have HS : Hid (∀ wx, Below w.heap.size w wx → Calls Tryd.prog 23 #[.slice a n cap] wx fun e w' => ∃ r, e = .returned (.float .f64 r) ∧ Num (sumO xs) r ∧ Below w.heap.size wx w') := fun wx hb => (sum_any a cap n xs wx (h.below hb (Nat.le_refl _)) hn).mono fun e w' ⟨r, h1, h2, h3⟩ => ⟨r, h1, h2, h3.mono hb.size⟩
  have HM : Hid (∀ r s w, Num (sumO xs) s → r = arR .quo s (floatOfInt .f64 n) w → Num (meanO xs) r) := fun r s w hs e => by
    rw [e]; unfold meanO; rw [hn]; exact num_quo hs _ _
  clear h hn
  go_enter Tryd.func25, Tryd.ntmps25
  go_wp2_with fail
  refine Calls.mono (HS.out w (Below.refl _ _)) ?_
  rintro e w1 ⟨s, rfl, hs, hb⟩
  have hs' : Aside (Num (sumO xs) s) := hs
  clear hs
  go_wp2
  go_ret
  exact ⟨_, rfl, HM.out _ _ _ hs'.out rfl, below_drewN hb _⟩

set_option maxHeartbeats 1000000 in
theorem refMean_any (a : Option Addr) (cap n : Nat) (xs : List Nat) (w : World) (h : FAt w a xs) (hn : xs.length = n) :
    Calls Tryd.prog 26 #[.slice a n cap] w fun e w' => ∃ r, e = .returned (.float .f64 r) ∧ Num (meanO xs) r ∧ Below w.heap.size w w' := by
  have hl : n ≤ 100 := by have := h.1; omega
  have HS : Hid (∀ wx, Below w.heap.size w wx → Calls Tryd.prog 24 #[.slice a n cap] wx fun e w' => ∃ r, e = .returned (.float .f64 r) ∧ Num (sumO xs) r ∧ Below w.heap.size wx w') := fun wx hb => (refSum_any a cap n xs wx (h.below hb (Nat.le_refl _)) hn).mono fun e w' ⟨r, h1, h2, h3⟩ => ⟨r, h1, h2, h3.mono hb.size⟩
  have HM : Hid (∀ r s w, Num (sumO xs) s → r = arR .quo s (floatOfInt .f64 n) w → Num (meanO xs) r) := fun r s w hs e => by
    rw [e]; unfold meanO; rw [hn]; exact num_quo hs _ _
  have HZ : Hid (n = 0 → meanO xs = none) := fun e => by
    have : xs = [] := List.length_eq_zero_iff.1 (by omega)
    rw [this]; exact mean_none
  clear h hn
  by_cases h0 : n = 0
  · subst h0
    go_enter Tryd.func26, Tryd.ntmps26
    go_wp2_with fail
    refine Calls.mono (nan_any _) ?_
    rintro e w1 ⟨rfl, rfl⟩
    go_wp2
    go_ret
    refine ⟨_, rfl, ?_, Below.refl _ _⟩
    rw [HZ.out trivial]; show nanB _ = true; decide
  · have hz : ((n : Int) == 0) = false := by simp; omega
    go_enter Tryd.func26, Tryd.ntmps26
    go_wp2_with fail
    refine Calls.mono (HS.out w (Below.refl _ _)) ?_
    rintro e w1 ⟨s, rfl, hs, hb⟩
    have hs' : Aside (Num (sumO xs) s) := hs
    clear hs
    go_wp2
    go_ret
    exact ⟨_, rfl, HM.out _ _ _ hs'.out rfl, below_drewN hb _⟩

/-- The ratio of two whole numbers. -/
def ratioO (a b : Int) : Option Nat := floatBits .quo .f64 (floatOfInt .f64 a) (floatOfInt .f64 b)
theorem ratio_any (a b : Int) (w : World) : Calls Tryd.prog 27 #[.int .i64 a, .int .i64 b] w fun e w' => ∃ r, e = .returned (.float .f64 r) ∧ Num (ratioO a b) r ∧ Below w.heap.size w w' := by
  go_enter Tryd.func27, Tryd.ntmps27
  go_wp2
  go_ret
  exact ⟨_, rfl, arR_num .quo _ _ _, below_drewN (Below.refl _ _) _⟩

theorem int_bits (a : Int) (h0 : a ≠ 0) (hm : a.natAbs ≤ 2 ^ 63) : ∃ r, 0 < r ∧ r < 9218868437227405312 ∧ floatOfInt .f64 a = Ieee.double.word (a < 0) r := by
  generalize hg : a.natAbs = m at hm
  have hm0 : m ≠ 0 := by omega
  have hL : m.log2 ≤ 63 := by
    have h2 : m < 2 ^ 64 := by omega
    have := (Nat.log2_lt hm0).2 h2
    omega
  have hup : m < 2 ^ (m.log2 + 1) := Nat.lt_log2_self
  have hf : floatOfInt .f64 a = Ieee.double.nearest (a < 0) m 0 := by
    show Ieee.Format.write Ieee.double (.number (decide (a < 0)) a.natAbs 0) = _
    rw [hg, Ieee.Format.write]
  rw [hf]
  unfold Ieee.Format.nearest
  rw [if_neg hm0]
  have e1 : max ((0 : Int) + m.log2 - Ieee.double.fractionBits) Ieee.double.leastPlace = (m.log2 : Int) - 52 := by
    show max ((0 : Int) + m.log2 - (52 : Nat)) (2 - 2 ^ (11 - 1) - (52 : Nat)) = _
    omega
  simp only [e1]
  have e2 : ((m.log2 : Int) - 52 - Ieee.double.leastPlace).toNat = m.log2 + 1022 := by
    show ((m.log2 : Int) - 52 - (2 - 2 ^ (11 - 1) - (52 : Nat))).toNat = _
    omega
  rw [e2]
  have hb : Ieee.double.binade = 2 ^ 52 := rfl
  have hi : Ieee.double.infRung = 9218868437227405312 := by decide
  rw [hb, hi]
  have hk : Ieee.Toward.even.cut (decide (a < 0)) (m <<< ((0 : Int) - ((m.log2 : Int) - 52)).toNat) ((m.log2 : Int) - 52 - 0).toNat ≤ 2 ^ 53 := by
    unfold Ieee.Toward.cut
    simp only
    have hmore : ∀ b : Bool, b.toNat ≤ 1 := by decide
    refine Nat.le_trans (Nat.add_le_add_left (hmore _) _) (Nat.succ_le_of_lt ?_)
    by_cases hc : m.log2 ≤ 52
    · have d0 : ((m.log2 : Int) - 52 - 0).toNat = 0 := by omega
      have s0 : ((0 : Int) - ((m.log2 : Int) - 52)).toNat = 52 - m.log2 := by omega
      rw [d0, s0, Nat.zero_min, Nat.shiftLeft_eq, Nat.shiftLeft_eq]
      simp only [Nat.pow_zero, Nat.mul_one, Nat.div_one]
      have : m * 2 ^ (52 - m.log2) < 2 ^ (m.log2 + 1) * 2 ^ (52 - m.log2) := Nat.mul_lt_mul_of_pos_right hup (Nat.two_pow_pos _)
      rw [← Nat.pow_add] at this
      have e : m.log2 + 1 + (52 - m.log2) = 53 := by omega
      rw [e] at this
      exact this
    · have d0 : ((m.log2 : Int) - 52 - 0).toNat = m.log2 - 52 := by omega
      have s0 : ((0 : Int) - ((m.log2 : Int) - 52)).toNat = 0 := by omega
      rw [d0, s0, Nat.shiftLeft_zero, Nat.min_eq_left (by omega), Nat.shiftLeft_eq, Nat.one_mul]
      refine Nat.div_lt_of_lt_mul ?_
      rw [← Nat.pow_add]
      have e : m.log2 - 52 + 53 = m.log2 + 1 := by omega
      rw [e]; exact hup
  revert hk
  generalize Ieee.Toward.even.cut (decide (a < 0)) (m <<< ((0 : Int) - ((m.log2 : Int) - 52)).toNat) ((m.log2 : Int) - 52 - 0).toNat = kept
  intro hk
  generalize m.log2 = L at hL hk ⊢
  have h1 : (L + 1022) * 2 ^ 52 + kept < 9218868437227405312 := by omega
  have h2 : 0 < (L + 1022) * 2 ^ 52 + kept := by omega
  rw [Nat.min_eq_left (Nat.le_of_lt h1)]
  exact ⟨(L + 1022) * 2 ^ 52 + kept, h2, h1, rfl⟩

theorem ratio_zero (a : Int) (h0 : a ≠ 0) (hm : a.natAbs ≤ 2 ^ 63) : ratioO a 0 = some (Ieee.double.word (a < 0) 9218868437227405312) := by
  obtain ⟨r, hr0, hr1, e⟩ := int_bits a h0 hm
  have hz : floatOfInt .f64 0 = 0 := by decide
  unfold ratioO
  rw [hz]
  show Ieee.Format.div Ieee.double _ 0 = _
  unfold Ieee.Format.div
  rw [e]
  have hsw : Ieee.double.signWeight = 2 ^ 63 := rfl
  have hrg : rung (Ieee.double.word (a < 0) r) = r := by
    unfold rung Ieee.Format.word
    rw [hsw]
    by_cases hn : a < 0
    · simp only [hn, decide_true, if_true]; omega
    · simp only [hn, decide_false, Bool.false_eq_true, if_false]; omega
  have hng : negB (Ieee.double.word (a < 0) r) = decide (a < 0) := by
    unfold negB Ieee.Format.word
    rw [hsw]
    by_cases hn : a < 0
    · simp only [hn, decide_true, if_true]
      have : (2 ^ 63 + r) / 2 ^ 63 % 2 = 1 := by omega
      rw [this]; rfl
    · simp only [hn, decide_false, Bool.false_eq_true, if_false]
      have : r / 2 ^ 63 % 2 = 0 := by omega
      rw [this]; rfl
  obtain ⟨M, p, er, em⟩ := read_fin (x := Ieee.double.word (a < 0) r) (by rw [hrg]; exact hr1)
  rw [hrg] at em
  rw [hng] at er
  have hM : M ≠ 0 := by
    intro h; rw [h, Nat.zero_mul] at em
    have := mag_lt hr0
    omega
  have e0 : Ieee.double.read 0 = .number false 0 Ieee.double.leastPlace := by decide
  rw [er, e0]
  have hq : ∀ k i j, Ieee.Datum.quotient k (.number (decide (a < 0)) M i) (.number false 0 j) = some (.infinity (decide (a < 0))) := by
    intro k i j
    unfold Ieee.Datum.quotient
    simp only [if_true, if_neg hM, Bool.xor_false]
  rw [hq]
  have hi : Ieee.double.infRung = 9218868437227405312 := by decide
  rw [Option.map_some, Ieee.Format.write, hi]
theorem ratio_none : ratioO 0 0 = none := by decide

set_option maxHeartbeats 1000000 in
theorem refRatio_any (a b : Int) (ha : -9223372036854775808 ≤ a ∧ a ≤ 9223372036854775807) (w : World) : Calls Tryd.prog 28 #[.int .i64 a, .int .i64 b] w fun e w' => ∃ r, e = .returned (.float .f64 r) ∧ Num (ratioO a b) r ∧ Below w.heap.size w w' := by
  by_cases hb : b = 0
  · subst hb
    rcases Int.lt_trichotomy a 0 with h | h | h
    · have HR : Hid (ratioO a 0 = some 18442240474082181120) := by
        show _ = _
        rw [ratio_zero a (by omega) (by omega)]; simp only [h, decide_true]; decide
      go_enter Tryd.func28, Tryd.ntmps28
      go_wp2_with fail
      refine Calls.mono (inf_neg _) ?_
      rintro e w1 ⟨rfl, rfl⟩
      go_wp2
      go_ret
      exact ⟨_, rfl, by rw [HR.out]; rfl, Below.refl _ _⟩
    · subst h
      go_enter Tryd.func28, Tryd.ntmps28
      go_wp2_with fail
      refine Calls.mono (nan_any _) ?_
      rintro e w1 ⟨rfl, rfl⟩
      go_wp2
      go_ret
      exact ⟨_, rfl, by rw [ratio_none]; show nanB _ = true; decide, Below.refl _ _⟩
    · have HR : Hid (ratioO a 0 = some 9218868437227405312) := by
        show _ = _
        rw [ratio_zero a (by omega) (by omega)]; simp only [show ¬ a < 0 by omega, decide_false]; decide
      go_enter Tryd.func28, Tryd.ntmps28
      go_wp2_with fail
      refine Calls.mono (inf_pos _) ?_
      rintro e w1 ⟨rfl, rfl⟩
      go_wp2
      go_ret
      exact ⟨_, rfl, by rw [HR.out]; rfl, Below.refl _ _⟩
  · go_enter Tryd.func28, Tryd.ntmps28
    go_wp2
    go_ret
    exact ⟨_, rfl, arR_num .quo _ _ _, below_drewN (Below.refl _ _) _⟩
end Go.Proofs.YtnebmbabfghlaaaDoor
