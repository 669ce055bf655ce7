/- Contracts of fields of words (put, get of the package cards over those of the package words): for a field above all set bits putting is a sum, getting a quotient's remainder; and of lay, a card's words. -/
import Derived.Test.YthpajdhcgdllmaaCdBase
namespace Go.Proofs.Ythpajdhcgdllmaa.Cd
open Go.RowKit

theorem ones_any (n : Int) (w : World) (h0 : 1 ≤ n) (h1 : n ≤ 64) :
    Calls Try.prog 59 #[.int .i64 n] w fun e w' => e = .returned (.int .u64 (onesI n)) ∧ w' = w := by
  go_enter Try.func59, Try.ntmps59
  go_wp2
  go_ret
  exact ⟨ret_int (ones_form n (by omega) h1), rfl⟩
theorem mayBe_yes (a n : Int) (w : World) (h0 : 0 ≤ a) (h1 : 1 ≤ n) (h2 : a + n ≤ 64) :
    Calls Try.prog 58 #[.int .i64 a, .int .i64 n] w fun e w' => e = .returned (.bool true) ∧ w' = w := by
  have h3 : n ≤ 64 - a := by omega
  go_enter Try.func58, Try.ntmps58
  go_wp2
  go_ret
  exact ⟨rfl, rfl⟩
theorem wget_yes (x a n : Int) (w : World) (hx0 : 0 ≤ x) (hx : x ≤ 18446744073709551615) (h0 : 0 ≤ a) (h1 : 1 ≤ n) (h2 : a + n ≤ 64) :
    Calls Try.prog 47 #[.int .u64 x, .int .i64 a, .int .i64 n] w fun e w' => e = .returned (.tuple #[.int .u64 (getI x a n), .int .i64 0]) ∧ w' = w := by
  have hb := onesI_bd n (by omega)
  go_enter Try.func47, Try.ntmps47
  go_wp2_with (first | (go_at_call 58; refine (mayBe_yes _ _ _ h0 h1 h2).mono ?_; rintro e w' ⟨rfl, rfl⟩) | (go_at_call 59; refine (ones_any _ _ h1 (by omega)).mono ?_; rintro e w' ⟨rfl, rfl⟩))
  go_ret2
  exact ⟨ret_pair (get_bits x a n hx0 hx h0 (by omega) h2), rfl⟩
theorem wput_yes (x a n v : Int) (w : World) (hx0 : 0 ≤ x) (hx : x ≤ 18446744073709551615) (h0 : 0 ≤ a) (h1 : 1 ≤ n) (h2 : a + n ≤ 64) (hv0 : 0 ≤ v) (hv : v ≤ onesI n) :
    Calls Try.prog 66 #[.int .u64 x, .int .i64 a, .int .i64 n, .int .u64 v] w fun e w' => e = .returned (.tuple #[.int .u64 (putI x a n v), .int .i64 0]) ∧ w' = w := by
  have hb := onesI_bd n (by omega)
  go_enter Try.func66, Try.ntmps66
  go_wp2_with (first | (go_at_call 58; refine (mayBe_yes _ _ _ h0 h1 h2).mono ?_; rintro e w' ⟨rfl, rfl⟩) | (go_at_call 59; refine (ones_any _ _ h1 (by omega)).mono ?_; rintro e w' ⟨rfl, rfl⟩))
  go_ret2
  exact ⟨ret_pair (put_bits x a n v hx0 hx h0 (by omega) h2 hv0 hv), rfl⟩

/-- A field is put where all set bits lie below it: p = 2 ^ a, q = 2 ^ n. -/
theorem put_any (x v : Int) (a n : Nat) (p q : Int) (w : World) (hp : ((2 ^ a : Nat) : Int) = p) (hq : ((2 ^ n : Nat) : Int) = q) (hx0 : 0 ≤ x) (hx : x < p) (h1 : 1 ≤ n) (h2 : a + n ≤ 64) (hv0 : 0 ≤ v) (hv : v < q) :
    Calls Try.prog 65 #[.int .u64 x, .int .i64 a, .int .i64 n, .int .i64 v] w fun e w' => e = .returned (.int .u64 (v * p + x)) ∧ w' = w := by
  have hp64 : (2 ^ a : Nat) ≤ 2 ^ 64 := Nat.pow_le_pow_right (by omega) (by omega)
  have hq64 : (2 ^ n : Nat) ≤ 2 ^ 64 := Nat.pow_le_pow_right (by omega) (by omega)
  have e := putI_low x v a n hx0 (by omega) h2 hv0 (by omega)
  have H : Hid (Calls Try.prog 66 #[.int .u64 x, .int .i64 a, .int .i64 n, .int .u64 v] w fun e w' => e = .returned (.tuple #[.int .u64 (putI x a n v), .int .i64 0]) ∧ w' = w) :=
    wput_yes x a n v w hx0 (by omega) (by omega) (by omega) (by omega) hv0 (by unfold onesI; rw [Int.toNat_natCast]; omega)
  rw [e, hp] at H
  have hv64 : v ≤ 18446744073709551615 := by omega
  clear e hp hq hp64 hq64
  go_enter Try.func65, Try.ntmps65
  go_wp2_with (go_at_call 66; refine Calls.mono (Hid.out H) ?_; rintro e w' ⟨rfl, rfl⟩)
  go_ret
  exact ⟨rfl, rfl⟩
theorem get_any (x : Int) (a n : Nat) (p q : Int) (w : World) (hp : ((2 ^ a : Nat) : Int) = p) (hq : ((2 ^ n : Nat) : Int) = q) (hx0 : 0 ≤ x) (hx : x ≤ 18446744073709551615) (h1 : 1 ≤ n) (h3 : n ≤ 32) (h2 : a + n ≤ 64) :
    Calls Try.prog 61 #[.int .u64 x, .int .i64 a, .int .i64 n] w fun e w' => e = .returned (.int .i64 (x / p % q)) ∧ w' = w := by
  have hq64 : (2 ^ n : Nat) ≤ 2 ^ 32 := Nat.pow_le_pow_right (by omega) (by omega)
  have e := getI_div x a n hx0
  have H : Hid (Calls Try.prog 47 #[.int .u64 x, .int .i64 a, .int .i64 n] w fun e w' => e = .returned (.tuple #[.int .u64 (getI x a n), .int .i64 0]) ∧ w' = w) :=
    wget_yes x a n w hx0 hx (by omega) (by omega) (by omega)
  rw [e, hp, hq] at H
  have hpos : 0 < (2 ^ n : Nat) := Nat.two_pow_pos _
  have hr0 : 0 ≤ x / p % q := Int.emod_nonneg _ (by omega)
  have hr1 : x / p % q < q := Int.emod_lt_of_pos _ (by omega)
  obtain ⟨r, hr⟩ : ∃ r, x / p % q = r := ⟨_, rfl⟩
  rw [hr] at H hr0 hr1 ⊢
  have hr2 : r ≤ 9223372036854775807 := by omega
  clear e hp hq hq64 hpos hr1 hr
  go_enter Try.func61, Try.ntmps61
  go_wp2_with (go_at_call 47; refine Calls.mono (Hid.out H) ?_; rintro e w' ⟨rfl, rfl⟩)
  go_ret
  exact ⟨rfl, rfl⟩
end Go.Proofs.Ythpajdhcgdllmaa.Cd
