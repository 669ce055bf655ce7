/- That the statements' head (noughts, the order's first, the greatest, -0 as text) answers true; nothing that was there changes. -/
import Derived.Test.YtnebmbabfghlaaaDoorLists
import Derived.Deep.QuietTactic
import Derived.BigQuiet
import Derived.BigRegion
namespace Go.Proofs.YtnebmbabfghlaaaDoor
open Go.RowKit
attribute [local go_sem] run_f64bits run_f64from run_f64bits'
theorem info5 : (Tryd.prog.info? 5).map (fun i => (i.zero, i.size, i.bytes)) = some (some (Value.int .u8 0), 1, 1) := by kernel_rfl
theorem below_drewN {B : Nat} {a w : World} (h : Below B a w) (n : Nat) : Below B a (w.drewN n) := h.trans ⟨rfl, rfl, rfl, Nat.le_refl _, fun _ _ => rfl⟩

theorem copysign_lives (w : World) : Calls Tryd.prog 38 #[.float .f64 0, .float .f64 13830554455654793216] w fun e w' => e = .returned (.float .f64 9223372036854775808) ∧ w' = w := by
  go_enter Tryd.func38, Tryd.ntmps38
  go_wp2
  go_ret
  exact ⟨ret_float (by decide), rfl⟩
theorem inf_pos (w : World) : Calls Tryd.prog 39 #[.int .i64 1] w fun e w' => e = .returned (.float .f64 9218868437227405312) ∧ w' = w := by
  go_enter Tryd.func39, Tryd.ntmps39
  go_wp2
  go_ret
  exact ⟨rfl, rfl⟩
theorem inf_neg (w : World) : Calls Tryd.prog 39 #[.int .i64 (-1)] w fun e w' => e = .returned (.float .f64 18442240474082181120) ∧ w' = w := by
  go_enter Tryd.func39, Tryd.ntmps39
  go_wp2
  go_ret
  exact ⟨rfl, rfl⟩
theorem nan_any (w : World) : Calls Tryd.prog 40 #[] w fun e w' => e = .returned (.float .f64 9221120237041090561) ∧ w' = w := by
  go_enter Tryd.func40, Tryd.ntmps40
  go_wp2
  go_ret
  exact ⟨rfl, rfl⟩
set_option maxRecDepth 20000 in
set_option maxHeartbeats 2000000 in
theorem fmt_zero (w : World) (base : Nat) (v : Value) (hown : w.ownsRow base 5 1 v 0 []) (hbase : base ≤ w.heap.size) :
    Calls Tryd.prog 65 #[v, .bool true, .slice none 0 0, .int .i64 0, .int .i64 0, .int .i64 (-1), .int .u8 103, .bool true] w fun e w' => ∃ v', e = .returned v' ∧ w'.ownsRow base 5 1 v' 2 [.int .u8 45, .int .u8 48] ∧ Below base w w' := by
  obtain ⟨i0, hi, hz0, hz1, hz2⟩ := info_parts info5
  go_enter Tryd.func65, Tryd.ntmps65
  go_wp2_with (at_builtin; refine wpList_append_own _ rfl _ _ 61 rfl base 5 i0 (.int .u8 0) 1 1 Tryd.underlying61 hi hz0 hz1 hz2 rfl (by decide) _ _ _ rfl (hown.alloc _) ⟨_, 0, none⟩ 1 1 [.int .u8 45] rfl rfl ?c1 ?c2 ?c3 ?c4 ?c5 ?_)
  case c1 =>
    intro j u hj
    match j, hj with
    | 0, hj => simp at hj; subst hj; simp [Addr.add]
  case c2 => intro u hu; simp at hu; subst hu; rfl
  case c3 => unfold maxLen; omega
  case c4 => omega
  case c5 => simp; omega
  intro v1 w1 hown1 hgrow _
  have hb1 : Below base w w1 := ((Below.refl _ _).alloc hbase _).grown hgrow (by simp; omega) (fun j h => (hown.lt j h).1)
  have hs1 := hb1.size
  clear hgrow hown
  go_wp2_with (at_builtin; refine wpList_append_own _ rfl _ _ 61 rfl base 5 i0 (.int .u8 0) 1 1 Tryd.underlying61 hi hz0 hz1 hz2 rfl (by decide) _ _ _ rfl (hown1.alloc _) ⟨_, 0, none⟩ 1 1 [.int .u8 48] rfl rfl ?c1 ?c2 ?c3 ?c4 ?c5 ?_)
  case c1 =>
    intro j u hj
    match j, hj with
    | 0, hj => simp at hj; subst hj; simp [Addr.add]
  case c2 => intro u hu; simp at hu; subst hu; rfl
  case c3 => unfold maxLen; omega
  case c4 => omega
  case c5 => simp; omega
  intro v2 w2 hown2 hgrow _
  have hb2 : Below base w1 w2 := ((Below.refl _ _).alloc (by omega) _).grown hgrow (by simp; omega) (fun j h => (hown1.lt j h).1)
  clear hgrow hown1
  go_wp2
  go_ret
  exact ⟨v2, rfl, hown2, hb1.trans hb2⟩

set_option maxRecDepth 20000 in
set_option maxHeartbeats 2000000 in
theorem ftoa_zero (w : World) (base : Nat) (v : Value) (hown : w.ownsRow base 5 1 v 0 []) (hbase : base ≤ w.heap.size) :
    Calls Tryd.prog 59 #[v, .float .f64 9223372036854775808, .int .u8 103, .int .i64 (-1)] w fun e w' => ∃ v', e = .returned v' ∧ w'.ownsRow base 5 1 v' 2 [.int .u8 45, .int .u8 48] ∧ Below base w w' := by
  have H : Hid (w.ownsRow base 5 1 v 0 []) := hown
  clear hown
  go_enter Tryd.func59, Tryd.ntmps59
  go_wp2_with fail
  go_quiet (fail)
  go_wp2_with fail
  refine (fmt_zero (w.drewN _) base v (show _ from H.out) hbase).mono ?_
  rintro e w' ⟨v', rfl, h1, h2⟩
  go_wp2
  go_ret
  exact ⟨v', rfl, h1, (below_drewN (Below.refl _ _) _).trans h2⟩

/-- Bytes as a row of values. -/
def bRow (bs : List UInt8) : List Value := bs.map fun b => Value.int .u8 (b.toNat : Int)
/-- The bytes of an own row, nil or not, as a text. -/
theorem own_text {w : World} {base : Nat} {v : Value} {bs : List UInt8} (hown : w.ownsRow base 5 1 v bs.length (bRow bs)) :
    (convert 61 9 v).run Tryd.prog w = .ok (.string ⟨bs.toArray⟩) w := by
  rcases hown.2 with ⟨rfl, h0⟩ | ⟨B, cap, cur, rfl, _⟩
  · have e : bs = [] := List.eq_nil_of_length_eq_zero h0
    subst e
    rw [run_convert_bytes_string w 61 9 5 none 0 0 Tryd.underlying61 Tryd.underlying5 Tryd.underlying9]
    simp [Conv.bytesToString]
    rfl
  · exact run_convert_bytes_back (P := Tryd.prog) w 61 9 5 ⟨B, 0, none⟩ cap bs Tryd.underlying61 Tryd.underlying5 Tryd.underlying9 (fun j hj => by
      have ea : (⟨B, 0, none⟩ : Addr).add j = ⟨B, j, none⟩ := by simp [Addr.add]; intro h; exact h.symm
      rw [ea, hown.cellAt j (by omega)]
      simp [bRow, hj])

set_option maxRecDepth 20000 in
theorem format_zero (w : World) :
    Calls Tryd.prog 55 #[.float .f64 9223372036854775808, .int .u8 103, .int .i64 (-1), .int .i64 64] w fun e w' => e = .returned (.string ⟨#[45, 48]⟩) ∧ Below w.heap.size w w' := by
  obtain ⟨i0, hi, hz0, hz1, hz2⟩ := info_parts info5
  go_enter Tryd.func55, Tryd.ntmps55
  go_wp2_with (at_make; refine wpList_make_own _ rfl _ _ 61 rfl w.heap.size 5 i0 (.int .u8 0) 1 Tryd.underlying61 hi hz0 hz1 _ _ _ 24 rfl rfl rfl ?b2 ?b3 (Nat.le_refl _) ?_)
  case b2 => rw [hz2]; omega
  case b3 => unfold maxLen; omega
  intro w1 hown1 hgrow
  have hb1 : Below w.heap.size w w1 := (Below.refl _ _).grown hgrow (Nat.le_refl _) (fun j h => by cases h)
  clear hgrow
  have H : Hid (w1.ownsRow w.heap.size 5 1 (.slice (some ⟨w.heap.size, 0, none⟩) 0 24) 0 []) := hown1
  clear hown1
  go_wp2_with fail
  refine (ftoa_zero w1 w.heap.size _ H.out hb1.size).mono ?_
  rintro e w2 ⟨v', rfl, h1, h2⟩
  have ht := own_text (bs := [45, 48]) h1
  clear h1
  go_wp2
  go_ret
  exact ⟨rfl, hb1.trans h2⟩


theorem run_neg_float (x : Nat) (w : World) : (Op.unary UnOp.neg (.float .f64 x)).run Tryd.prog w = .ok (.float .f64 (Op.negFloat .f64 x)) w := rfl
attribute [local go_sem] run_neg_float
/-- Beyond the greatest number. -/
def infB (x : Nat) : Bool := FloatKind.f64.format.order x 9218868437227405311 == some Ordering.gt
theorem isInf_pos (x : Nat) (w : World) : Calls Tryd.prog 41 #[.float .f64 x, .int .i64 1] w fun e w' => e = .returned (.bool (infB x)) ∧ w' = w := by
  go_enter Tryd.func41, Tryd.ntmps41
  go_wp2
  go_ret
  exact ⟨rfl, rfl⟩
theorem isInf_neg (x : Nat) (w : World) : Calls Tryd.prog 41 #[.float .f64 x, .int .i64 (-1)] w fun e w' => e = .returned (.bool (infB (Op.negFloat .f64 x))) ∧ w' = w := by
  go_enter Tryd.func41, Tryd.ntmps41
  go_wp2
  go_ret
  exact ⟨rfl, rfl⟩
theorem sformat_zero (w : World) :
    Calls Tryd.prog 50 #[.float .f64 9223372036854775808, .int .u8 103, .int .i64 (-1), .int .i64 64] w fun e w' => e = .returned (.string ⟨#[45, 48]⟩) ∧ Below w.heap.size w w' := by
  go_enter Tryd.func50, Tryd.ntmps50
  go_wp2_with fail
  refine (format_zero _).mono ?_
  rintro e w' ⟨rfl, hb⟩
  go_wp2
  go_ret
  exact ⟨rfl, hb⟩

theorem show_zero (w : World) : Calls Tryd.prog 31 #[.float .f64 9223372036854775808] w fun e w' => e = .returned (.string ⟨#[45, 48]⟩) ∧ Below w.heap.size w w' := by
  have n0 : nanB 9223372036854775808 = false := by decide
  have g1 : infB 9223372036854775808 = false := by decide
  have g2 : infB (Op.negFloat .f64 9223372036854775808) = false := by decide
  go_enter Tryd.func31, Tryd.ntmps31
  go_wp2_with fail
  refine (isNaN_any _ _).mono ?_
  rintro e w' ⟨rfl, rfl⟩
  go_wp2_with fail
  refine (isInf_pos _ _).mono ?_
  rintro e w' ⟨rfl, rfl⟩
  go_wp2_with fail
  refine (isInf_neg _ _).mono ?_
  rintro e w' ⟨rfl, rfl⟩
  go_wp2_with fail
  refine (sformat_zero _).mono ?_
  rintro e w' ⟨rfl, hb⟩
  go_wp2
  go_ret
  exact ⟨rfl, hb⟩

theorem greatest_lives : greatestF [4607182418800017408, 9218868437227405312, 9221120237041090561] = 9218868437227405312 := by decide
theorem cmp_lives1 : cmpI 9223372036854775808 0 = -1 := by decide
theorem cmp_lives2 : cmpI 9221120237041090561 18442240474082181120 = -1 := by decide
theorem inf_lives : infB 9218868437227405312 = true := by decide

set_option maxHeartbeats 1000000 in
theorem lives_any (w : World) : Calls Tryd.prog 9 #[] w fun e w' => e = .returned (.bool true) ∧ Below w.heap.size w w' := by
  go_enter Tryd.func9, Tryd.ntmps9
  go_wp2_with fail
  refine (copysign_lives _).mono ?_
  rintro e w' ⟨rfl, rfl⟩
  go_wp2_with fail
  refine (inf_pos _).mono ?_
  rintro e w' ⟨rfl, rfl⟩
  go_wp2_with fail
  refine (nan_any _).mono ?_
  rintro e w0 ⟨rfl, rfl⟩
  go_wp2_with fail
  refine (greatest_any (some ⟨_, 0, none⟩) 3 [4607182418800017408, 9218868437227405312, 9221120237041090561] _ ⟨by simp, by simp, .inr ⟨_, 0, rfl, by simp, ?_⟩⟩ (by simp) (by omega)).mono ?_
  · intro i hi
    simp at hi
    match i, hi with
    | 0, _ => simp [nth]
    | 1, _ => simp [nth]
    | 2, _ => simp [nth]
    | n + 3, h => omega
  rw [greatest_lives]
  rintro e w1 ⟨rfl, rfl⟩
  go_wp2_with fail
  refine (compare_any _ _ _).mono ?_
  rw [cmp_lives1]
  rintro e w1 ⟨rfl, rfl⟩
  go_wp2_with fail
  refine (nan_any _).mono ?_
  rintro e w1 ⟨rfl, rfl⟩
  go_wp2_with fail
  refine (inf_neg _).mono ?_
  rintro e w1 ⟨rfl, rfl⟩
  go_wp2_with fail
  refine (compare_any _ _ _).mono ?_
  rw [cmp_lives2]
  rintro e w1 ⟨rfl, rfl⟩
  go_wp2_with fail
  refine (isInf_pos _ _).mono ?_
  rw [inf_lives]
  rintro e w1 ⟨rfl, rfl⟩
  go_wp2_with fail
  refine (show_zero _).mono ?_
  rintro e w2 ⟨rfl, hb⟩
  go_wp2
  go_ret
  exact ⟨rfl, ((Below.refl _ _).alloc (Nat.le_refl _) _).trans (hb.mono (by simp))⟩
end Go.Proofs.YtnebmbabfghlaaaDoor
