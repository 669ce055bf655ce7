/- Numbers as text: for every number one text, whatever the world (FormatFloat, Show, and the document's Show). -/
import Derived.Test.YtnebmbabfghlaaaDoorSumsS
namespace Go.Proofs.YtnebmbabfghlaaaDoor
open Go.RowKit Go.Lib
attribute [local go_sem] run_f64bits run_f64from run_f64bits'

theorem ofInt_nat (a : Nat) (ha : a < 18446744073709551616) : (BitVec.ofInt 64 (a : Int)).toNat = a := by
  rw [BitVec.toNat_ofInt]; omega
theorem wrap_i64_small (z : Nat) (h : z < 9223372036854775808) : IntKind.i64.wrap (z : Int) = z := by
  unfold IntKind.wrap
  have e3 : (z : Int) % (2 ^ IntKind.i64.bits : Int) = z := by
    show (z : Int) % (2 ^ 64 : Int) = z
    omega
  simp only [e3]
  have e4 : ¬ ((z : Int) ≥ (2 ^ (IntKind.i64.bits - 1) : Int)) := by
    show ¬ ((z : Int) ≥ (2 ^ 63 : Int))
    omega
  simp [e4]
theorem and_u64 (a b : Nat) (ha : a < 18446744073709551616) (hb : b < 18446744073709551616) : bits .and .u64 (a : Int) (b : Int) = ((a &&& b : Nat) : Int) := by
  have e : bits .and .u64 (a : Int) (b : Int) = IntKind.u64.wrap ((BitVec.ofInt 64 (a : Int) &&& BitVec.ofInt 64 (b : Int)).toNat : Int) := rfl
  rw [e, BitVec.toNat_and, ofInt_nat a ha, ofInt_nat b hb, IntKind.wrap_u64]
  have : a &&& b ≤ b := Nat.and_le_right
  omega
theorem or_u64 (a b : Nat) (ha : a < 18446744073709551616) (hb : b < 18446744073709551616) : bits .or .u64 (a : Int) (b : Int) = ((a ||| b : Nat) : Int) := by
  have e : bits .or .u64 (a : Int) (b : Int) = IntKind.u64.wrap ((BitVec.ofInt 64 (a : Int) ||| BitVec.ofInt 64 (b : Int)).toNat : Int) := rfl
  rw [e, BitVec.toNat_or, ofInt_nat a ha, ofInt_nat b hb, IntKind.wrap_u64]
  have : a ||| b < 2 ^ 64 := Nat.or_lt_two_pow ha hb
  omega
theorem and_i64 (a b : Nat) (ha : a < 18446744073709551616) (hb : b < 9223372036854775808) : bits .and .i64 (a : Int) (b : Int) = ((a &&& b : Nat) : Int) := by
  have e : bits .and .i64 (a : Int) (b : Int) = IntKind.i64.wrap ((BitVec.ofInt 64 (a : Int) &&& BitVec.ofInt 64 (b : Int)).toNat : Int) := rfl
  have : a &&& b ≤ b := Nat.and_le_right
  rw [e, BitVec.toNat_and, ofInt_nat a ha, ofInt_nat b (by omega), wrap_i64_small _ (by omega)]

set_option maxRecDepth 20000 in
set_option maxHeartbeats 2000000 in
theorem fmt_zero0 (w : World) (base : Nat) (v : Value) (hown : w.ownsRow base 5 1 v 0 []) (hbase : base ≤ w.heap.size) :
    Calls Tryd.prog 65 #[v, .bool false, .slice none 0 0, .int .i64 0, .int .i64 0, .int .i64 (-1), .int .u8 103, .bool true] w fun e w' => ∃ v', e = .returned v' ∧ w'.ownsRow base 5 1 v' 1 [.int .u8 48] ∧ Below base w w' := by
  obtain ⟨i0, hi, hz0, hz1, hz2⟩ := info_parts info5
  go_enter Tryd.func65, Tryd.ntmps65
  go_wp2_with (at_builtin; refine wpList_append_own _ rfl _ _ 61 rfl base 5 i0 (.int .u8 0) 1 1 Tryd.underlying61 hi hz0 hz1 hz2 rfl (by decide) _ _ _ rfl (hown.alloc _) ⟨_, 0, none⟩ 1 1 [.int .u8 48] rfl rfl ?c1 ?c2 ?c3 ?c4 ?c5 ?_)
  case c1 =>
    intro j u hj
    match j, hj with
    | 0, hj => simp at hj; subst hj; simp [Addr.add]
  case c2 => intro u hu; simp at hu; subst hu; rfl
  case c3 => unfold maxLen; omega
  case c4 => omega
  case c5 => simp; omega
  intro v1 w1 hown1 hgrow _
  have hb1 : Below base w w1 := ((Below.refl _ _).alloc hbase _).grown hgrow (by simp; omega) (fun j h => (hown.lt j h).1)
  clear hgrow hown
  go_wp2
  go_ret
  exact ⟨v1, rfl, hown1, hb1⟩

set_option maxRecDepth 20000 in
set_option maxHeartbeats 2000000 in
theorem ftoa_zero0 (w : World) (base : Nat) (v : Value) (hown : w.ownsRow base 5 1 v 0 []) (hbase : base ≤ w.heap.size) :
    Calls Tryd.prog 59 #[v, .float .f64 0, .int .u8 103, .int .i64 (-1)] w fun e w' => ∃ v', e = .returned v' ∧ w'.ownsRow base 5 1 v' 1 [.int .u8 48] ∧ Below base w w' := by
  have H : Hid (w.ownsRow base 5 1 v 0 []) := hown
  clear hown
  go_enter Tryd.func59, Tryd.ntmps59
  go_wp2_with fail
  go_quiet (fail)
  go_wp2_with fail
  refine (fmt_zero0 (w.drewN _) base v (show _ from H.out) hbase).mono ?_
  rintro e w' ⟨v', rfl, h1, h2⟩
  go_wp2
  go_ret
  exact ⟨v', rfl, h1, (below_drewN (Below.refl _ _) _).trans h2⟩

/-- ftoa64 of any number that is finite. -/
theorem ftoa_all (TH TL : Nat → Int) (hT : ∀ i, U64 (TH i) ∧ U64 (TL i)) (x : Nat) (hx : x < 18446744073709551616) (hf : x % 9223372036854775808 < 9218868437227405312) :
    ∃ T : List UInt8, ∀ (w : World) (base : Nat) (v : Value), Tabs w TH TL → w.ownsRow base 5 1 v 0 [] → base ≤ w.heap.size →
    Calls Tryd.prog 59 #[v, .float .f64 x, .int .u8 103, .int .i64 (-1)] w fun e w' => ∃ v', e = .returned v' ∧ w'.ownsRow base 5 1 v' T.length (bRow T) ∧ Below base w w' := by
  by_cases z0 : x = 0
  · subst z0
    exact ⟨[48], fun w base v _ h1 h2 => ftoa_zero0 w base v h1 h2⟩
  by_cases z1 : x = 9223372036854775808
  · subst z1
    exact ⟨[45, 48], fun w base v _ h1 h2 => ftoa_zero w base v h1 h2⟩
  have eE : bits .and .i64 ((x : Int) / 4503599627370496) 2047 = ((x / 4503599627370496 % 2048 : Nat) : Int) := by
    have e1 : (x : Int) / 4503599627370496 = ((x / 4503599627370496 : Nat) : Int) := by simp
    have e2 := and_i64 (x / 4503599627370496) 2047 (by omega) (by omega)
    have e3 : x / 4503599627370496 &&& (2 ^ 11 - 1) = x / 4503599627370496 % 2 ^ 11 := Nat.and_two_pow_sub_one_eq_mod _ _
    rw [e1]
    exact e2.trans (congrArg Nat.cast e3)
  have eM : bits .and .u64 (x : Int) 4503599627370495 = ((x % 4503599627370496 : Nat) : Int) := by
    have e2 := and_u64 x 4503599627370495 (by omega) (by omega)
    have e3 : x &&& (2 ^ 52 - 1) = x % 2 ^ 52 := Nat.and_two_pow_sub_one_eq_mod _ _
    exact e2.trans (congrArg Nat.cast e3)
  by_cases hE : x / 4503599627370496 % 2048 = 0
  · rw [hE] at eE
    exact ftoa_sub TH TL hT x (x % 4503599627370496) hx eE eM (by omega) (by omega)
  · have eO := or_u64 (x % 4503599627370496) 4503599627370496 (by omega) (by omega)
    have h1 : x % 4503599627370496 ||| 4503599627370496 < 2 ^ 53 := Nat.or_lt_two_pow (by omega) (by omega)
    have h2 : 4503599627370496 ≤ x % 4503599627370496 ||| 4503599627370496 := Nat.right_le_or
    exact ftoa_nor TH TL hT x (x / 4503599627370496 % 2048) (x % 4503599627370496) (x % 4503599627370496 ||| 4503599627370496) hx eE (by omega) (by omega) eM eO (by omega) (by omega)

set_option maxRecDepth 20000 in
theorem format_all (TH TL : Nat → Int) (hT : ∀ i, U64 (TH i) ∧ U64 (TL i)) (x : Nat) (hx : x < 18446744073709551616) (hf : x % 9223372036854775808 < 9218868437227405312) :
    ∃ T : List UInt8, ∀ (w : World), Tabs w TH TL →
    Calls Tryd.prog 55 #[.float .f64 x, .int .u8 103, .int .i64 (-1), .int .i64 64] w fun e w' => e = .returned (.string ⟨T.toArray⟩) ∧ Below w.heap.size w w' := by
  obtain ⟨T, h⟩ := ftoa_all TH TL hT x hx hf
  have HF : Hid _ := h
  clear h
  refine ⟨T, fun w ht => ?_⟩
  have HTab : Hid (Tabs w TH TL) := ht
  have h3 : 3 < w.heap.size := ht.2.2
  clear ht
  obtain ⟨i0, hi, hz0, hz1, hz2⟩ := info_parts info5
  go_enter Tryd.func55, Tryd.ntmps55
  go_wp2_with (at_make; refine wpList_make_own _ rfl _ _ 61 rfl w.heap.size 5 i0 (.int .u8 0) 1 Tryd.underlying61 hi hz0 hz1 _ _ _ 24 rfl rfl rfl ?b2 ?b3 (Nat.le_refl _) ?_)
  case b2 => rw [hz2]; omega
  case b3 => unfold maxLen; omega
  intro w1 hown1 hgrow
  have hb1 : Below w.heap.size w w1 := (Below.refl _ _).grown hgrow (Nat.le_refl _) (fun j h => by cases h)
  clear hgrow
  have H : Hid (w1.ownsRow w.heap.size 5 1 (.slice (some ⟨w.heap.size, 0, none⟩) 0 24) 0 []) := hown1
  clear hown1
  go_wp2_with fail
  refine (HF.out w1 w.heap.size _ (HTab.out.below hb1 h3) H.out hb1.size).mono ?_
  rintro e w2 ⟨v', rfl, h1, h2⟩
  have ht := own_text h1
  clear h1
  go_wp2
  go_ret
  exact ⟨rfl, hb1.trans h2⟩
theorem sformat_all (x : Nat) (T : ByteArray) (w : World) (h : Calls Tryd.prog 55 #[.float .f64 x, .int .u8 103, .int .i64 (-1), .int .i64 64] w fun e w' => e = .returned (.string T) ∧ Below w.heap.size w w') :
    Calls Tryd.prog 50 #[.float .f64 x, .int .u8 103, .int .i64 (-1), .int .i64 64] w fun e w' => e = .returned (.string T) ∧ Below w.heap.size w w' := by
  have H : Hid _ := h
  clear h
  go_enter Tryd.func50, Tryd.ntmps50
  go_wp2_with fail
  refine Calls.mono H.out ?_
  rintro e w' ⟨rfl, hb⟩
  go_wp2
  go_ret
  exact ⟨rfl, hb⟩

theorem infB_pos : infB 9218868437227405312 = true := by decide
theorem infB_neg : infB (Op.negFloat .f64 18442240474082181120) = true := by decide
theorem fin_of (x : Nat) (hx : x < 18446744073709551616) (h0 : nanB x = false) (h1 : infB x = false) (h2 : infB (Op.negFloat .f64 x) = false) : x % 9223372036854775808 < 9218868437227405312 := by
  have a0 : ¬ 9218868437227405312 < rung x := fun h => by rw [nanB_iff.2 h] at h0; cases h0
  unfold rung at a0
  apply Classical.byContradiction
  intro hc
  have h3 : x = 9218868437227405312 ∨ x = 18442240474082181120 := by omega
  rcases h3 with rfl | rfl
  · rw [infB_pos] at h1; cases h1
  · rw [infB_neg] at h2; cases h2

/-- Show, and the document's: the same text. -/
theorem show_all (TH TL : Nat → Int) (hT : ∀ i, U64 (TH i) ∧ U64 (TL i)) (x : Nat) (hx : x < 18446744073709551616) :
    ∃ T : ByteArray, ∀ (w : World), Tabs w TH TL →
      (Calls Tryd.prog 31 #[.float .f64 x] w fun e w' => e = .returned (.string T) ∧ Below w.heap.size w w') ∧
      (Calls Tryd.prog 32 #[.float .f64 x] w fun e w' => e = .returned (.string T) ∧ Below w.heap.size w w') := by
  cases n0 : nanB x with
  | true =>
    refine ⟨⟨#[110, 97, 110]⟩, fun w _ => ⟨?_, ?_⟩⟩
    · go_enter Tryd.func31, Tryd.ntmps31
      go_wp2_with fail
      refine (isNaN_any _ _).mono ?_
      rintro e w' ⟨rfl, rfl⟩
      go_wp2
      go_ret
      exact ⟨rfl, Below.refl _ _⟩
    · go_enter Tryd.func32, Tryd.ntmps32
      go_wp2_with fail
      refine (none_any _ _).mono ?_
      rintro e w' ⟨rfl, rfl⟩
      go_wp2
      go_ret
      exact ⟨rfl, Below.refl _ _⟩
  | false =>
  cases n1 : infB x with
  | true =>
    refine ⟨⟨#[105, 110, 102]⟩, fun w _ => ⟨?_, ?_⟩⟩
    · go_enter Tryd.func31, Tryd.ntmps31
      go_wp2_with fail
      refine (isNaN_any _ _).mono ?_
      rintro e w' ⟨rfl, rfl⟩
      go_wp2_with fail
      refine (isInf_pos _ _).mono ?_
      rintro e w' ⟨rfl, rfl⟩
      go_wp2
      go_ret
      exact ⟨rfl, Below.refl _ _⟩
    · go_enter Tryd.func32, Tryd.ntmps32
      go_wp2_with fail
      refine (none_any _ _).mono ?_
      rintro e w' ⟨rfl, rfl⟩
      go_wp2_with fail
      refine (isInf_pos _ _).mono ?_
      rintro e w' ⟨rfl, rfl⟩
      go_wp2
      go_ret
      exact ⟨rfl, Below.refl _ _⟩
  | false =>
  cases n2 : infB (Op.negFloat .f64 x) with
  | true =>
    refine ⟨⟨#[45, 105, 110, 102]⟩, fun w _ => ⟨?_, ?_⟩⟩
    · go_enter Tryd.func31, Tryd.ntmps31
      go_wp2_with fail
      refine (isNaN_any _ _).mono ?_
      rintro e w' ⟨rfl, rfl⟩
      go_wp2_with fail
      refine (isInf_pos _ _).mono ?_
      rintro e w' ⟨rfl, rfl⟩
      go_wp2_with fail
      refine (isInf_neg _ _).mono ?_
      rintro e w' ⟨rfl, rfl⟩
      go_wp2
      go_ret
      exact ⟨rfl, Below.refl _ _⟩
    · go_enter Tryd.func32, Tryd.ntmps32
      go_wp2_with fail
      refine (none_any _ _).mono ?_
      rintro e w' ⟨rfl, rfl⟩
      go_wp2_with fail
      refine (isInf_pos _ _).mono ?_
      rintro e w' ⟨rfl, rfl⟩
      go_wp2_with fail
      refine (isInf_neg _ _).mono ?_
      rintro e w' ⟨rfl, rfl⟩
      go_wp2
      go_ret
      exact ⟨rfl, Below.refl _ _⟩
  | false =>
    obtain ⟨T, h⟩ := format_all TH TL hT x hx (fin_of x hx n0 n1 n2)
    have HF : Hid _ := h
    clear h
    refine ⟨⟨T.toArray⟩, fun w ht => ⟨?_, ?_⟩⟩
    · have HS : Hid _ := sformat_all x _ w (HF.out w ht)
      go_enter Tryd.func31, Tryd.ntmps31
      go_wp2_with fail
      refine (isNaN_any _ _).mono ?_
      rintro e w' ⟨rfl, rfl⟩
      go_wp2_with fail
      refine (isInf_pos _ _).mono ?_
      rintro e w' ⟨rfl, rfl⟩
      go_wp2_with fail
      refine (isInf_neg _ _).mono ?_
      rintro e w' ⟨rfl, rfl⟩
      go_wp2_with fail
      refine Calls.mono HS.out ?_
      rintro e w' ⟨rfl, hb⟩
      go_wp2
      go_ret
      exact ⟨rfl, hb⟩
    · have HS : Hid _ := sformat_all x _ w (HF.out w ht)
      go_enter Tryd.func32, Tryd.ntmps32
      go_wp2_with fail
      refine (none_any _ _).mono ?_
      rintro e w' ⟨rfl, rfl⟩
      go_wp2_with fail
      refine (isInf_pos _ _).mono ?_
      rintro e w' ⟨rfl, rfl⟩
      go_wp2_with fail
      refine (isInf_neg _ _).mono ?_
      rintro e w' ⟨rfl, rfl⟩
      go_wp2_with fail
      refine Calls.mono HS.out ?_
      rintro e w' ⟨rfl, hb⟩
      go_wp2
      go_ret
      exact ⟨rfl, hb⟩
end Go.Proofs.YtnebmbabfghlaaaDoor
