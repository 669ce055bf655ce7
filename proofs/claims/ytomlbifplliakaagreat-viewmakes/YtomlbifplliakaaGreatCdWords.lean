/- Contracts of fields of words (put, get of the package cards over those of the package words): for a field above all set bits putting is a sum, getting a quotient's remainder; and of lay, a card's words. -/
import Derived.Test.YtomlbifplliakaaGreatCdBase
namespace Go.Proofs.YtomlbifplliakaaGreat.Cd
open Go.RowKit

theorem ones_any (n : Int) (w : World) (h0 : 1 ≤ n) (h1 : n ≤ 64) :
    Calls Tryz.prog 109 #[.int .i64 n] w fun e w' => e = .returned (.int .u64 (onesI n)) ∧ w' = w := by
  go_enter Tryz.func109, Tryz.ntmps109
  go_wp2
  go_ret
  exact ⟨ret_int (ones_form n (by omega) h1), rfl⟩
theorem mayBe_yes (a n : Int) (w : World) (h0 : 0 ≤ a) (h1 : 1 ≤ n) (h2 : a + n ≤ 64) :
    Calls Tryz.prog 108 #[.int .i64 a, .int .i64 n] w fun e w' => e = .returned (.bool true) ∧ w' = w := by
  have h3 : n ≤ 64 - a := by omega
  go_enter Tryz.func108, Tryz.ntmps108
  go_wp2
  go_ret
  exact ⟨rfl, rfl⟩
theorem wget_yes (x a n : Int) (w : World) (hx0 : 0 ≤ x) (hx : x ≤ 18446744073709551615) (h0 : 0 ≤ a) (h1 : 1 ≤ n) (h2 : a + n ≤ 64) :
    Calls Tryz.prog 100 #[.int .u64 x, .int .i64 a, .int .i64 n] w fun e w' => e = .returned (.tuple #[.int .u64 (getI x a n), .int .i64 0]) ∧ w' = w := by
  have hb := onesI_bd n (by omega)
  go_enter Tryz.func100, Tryz.ntmps100
  go_wp2_with (first | (go_at_call 108; refine (mayBe_yes _ _ _ h0 h1 h2).mono ?_; rintro e w' ⟨rfl, rfl⟩) | (go_at_call 109; refine (ones_any _ _ h1 (by omega)).mono ?_; rintro e w' ⟨rfl, rfl⟩))
  go_ret2
  exact ⟨ret_pair (get_bits x a n hx0 hx h0 (by omega) h2), rfl⟩
theorem wput_yes (x a n v : Int) (w : World) (hx0 : 0 ≤ x) (hx : x ≤ 18446744073709551615) (h0 : 0 ≤ a) (h1 : 1 ≤ n) (h2 : a + n ≤ 64) (hv0 : 0 ≤ v) (hv : v ≤ onesI n) :
    Calls Tryz.prog 101 #[.int .u64 x, .int .i64 a, .int .i64 n, .int .u64 v] w fun e w' => e = .returned (.tuple #[.int .u64 (putI x a n v), .int .i64 0]) ∧ w' = w := by
  have hb := onesI_bd n (by omega)
  go_enter Tryz.func101, Tryz.ntmps101
  go_wp2_with (first | (go_at_call 108; refine (mayBe_yes _ _ _ h0 h1 h2).mono ?_; rintro e w' ⟨rfl, rfl⟩) | (go_at_call 109; refine (ones_any _ _ h1 (by omega)).mono ?_; rintro e w' ⟨rfl, rfl⟩))
  go_ret2
  exact ⟨ret_pair (put_bits x a n v hx0 hx h0 (by omega) h2 hv0 hv), rfl⟩

/-- A field is put where all set bits lie below it: p = 2 ^ a, q = 2 ^ n. -/
theorem put_any (x v : Int) (a n : Nat) (p q : Int) (w : World) (hp : ((2 ^ a : Nat) : Int) = p) (hq : ((2 ^ n : Nat) : Int) = q) (hx0 : 0 ≤ x) (hx : x < p) (h1 : 1 ≤ n) (h2 : a + n ≤ 64) (hv0 : 0 ≤ v) (hv : v < q) :
    Calls Tryz.prog 87 #[.int .u64 x, .int .i64 a, .int .i64 n, .int .i64 v] w fun e w' => e = .returned (.int .u64 (v * p + x)) ∧ w' = w := by
  have hp64 : (2 ^ a : Nat) ≤ 2 ^ 64 := Nat.pow_le_pow_right (by omega) (by omega)
  have hq64 : (2 ^ n : Nat) ≤ 2 ^ 64 := Nat.pow_le_pow_right (by omega) (by omega)
  have e := putI_low x v a n hx0 (by omega) h2 hv0 (by omega)
  have H : Hid (Calls Tryz.prog 101 #[.int .u64 x, .int .i64 a, .int .i64 n, .int .u64 v] w fun e w' => e = .returned (.tuple #[.int .u64 (putI x a n v), .int .i64 0]) ∧ w' = w) :=
    wput_yes x a n v w hx0 (by omega) (by omega) (by omega) (by omega) hv0 (by unfold onesI; rw [Int.toNat_natCast]; omega)
  rw [e, hp] at H
  have hv64 : v ≤ 18446744073709551615 := by omega
  clear e hp hq hp64 hq64
  go_enter Tryz.func87, Tryz.ntmps87
  go_wp2_with (go_at_call 101; refine Calls.mono (Hid.out H) ?_; rintro e w' ⟨rfl, rfl⟩)
  go_ret
  exact ⟨rfl, rfl⟩
theorem get_any (x : Int) (a n : Nat) (p q : Int) (w : World) (hp : ((2 ^ a : Nat) : Int) = p) (hq : ((2 ^ n : Nat) : Int) = q) (hx0 : 0 ≤ x) (hx : x ≤ 18446744073709551615) (h1 : 1 ≤ n) (h3 : n ≤ 32) (h2 : a + n ≤ 64) :
    Calls Tryz.prog 81 #[.int .u64 x, .int .i64 a, .int .i64 n] w fun e w' => e = .returned (.int .i64 (x / p % q)) ∧ w' = w := by
  have hq64 : (2 ^ n : Nat) ≤ 2 ^ 32 := Nat.pow_le_pow_right (by omega) (by omega)
  have e := getI_div x a n hx0
  have H : Hid (Calls Tryz.prog 100 #[.int .u64 x, .int .i64 a, .int .i64 n] w fun e w' => e = .returned (.tuple #[.int .u64 (getI x a n), .int .i64 0]) ∧ w' = w) :=
    wget_yes x a n w hx0 hx (by omega) (by omega) (by omega)
  rw [e, hp, hq] at H
  have hpos : 0 < (2 ^ n : Nat) := Nat.two_pow_pos _
  have hr0 : 0 ≤ x / p % q := Int.emod_nonneg _ (by omega)
  have hr1 : x / p % q < q := Int.emod_lt_of_pos _ (by omega)
  obtain ⟨r, hr⟩ : ∃ r, x / p % q = r := ⟨_, rfl⟩
  rw [hr] at H hr0 hr1 ⊢
  have hr2 : r ≤ 9223372036854775807 := by omega
  clear e hp hq hq64 hpos hr1 hr
  go_enter Tryz.func81, Tryz.ntmps81
  go_wp2_with (go_at_call 100; refine Calls.mono (Hid.out H) ?_; rintro e w' ⟨rfl, rfl⟩)
  go_ret
  exact ⟨rfl, rfl⟩
end Go.Proofs.YtomlbifplliakaaGreat.Cd
