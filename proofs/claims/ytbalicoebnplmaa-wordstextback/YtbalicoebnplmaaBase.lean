/- Contracts of the package's leaves (where a byte lies, the mask, whether a field may be) and of Get and Put, for every word, place, width and value; they change nothing in memory. -/
import Derived.Test.YtbalicoebnplmaaProg
import Derived.Test.YtbalicoebnplmaaMath
import Derived.WalkKit
namespace Go.Proofs.Ytbalicoebnplmaa
open Go.RowKit

theorem ret_int {k : IntKind} {a b : Int} (h : a = b) : Ending.returned (.int k a) = .returned (.int k b) := by rw [h]
theorem ret_pair {k l : IntKind} {a b : Int} {c : Int} (h : a = b) : Ending.returned (.tuple #[.int k a, .int l c]) = .returned (.tuple #[.int k b, .int l c]) := by rw [h]

theorem place_any (i : Int) (w : World) (h0 : 0 ≤ i) (h1 : i ≤ 9223372036854775807) :
    Calls Try.prog 25 #[.int .i64 i] w fun e w' => e = .returned (.int .u64 (i % 8 * 8)) ∧ w' = w := by
  go_enter Try.func25, Try.ntmps25
  go_wp2
  go_ret
  exact ⟨rfl, rfl⟩

theorem ones_any (n : Int) (w : World) (h0 : 1 ≤ n) (h1 : n ≤ 64) :
    Calls Try.prog 22 #[.int .i64 n] w fun e w' => e = .returned (.int .u64 (onesI n)) ∧ w' = w := by
  go_enter Try.func22, Try.ntmps22
  go_wp2
  go_ret
  exact ⟨ret_int (ones_form n (by omega) h1), rfl⟩

theorem mayBe_yes (a n : Int) (w : World) (h0 : 0 ≤ a) (h1 : 1 ≤ n) (h2 : a + n ≤ 64) :
    Calls Try.prog 21 #[.int .i64 a, .int .i64 n] w fun e w' => e = .returned (.bool true) ∧ w' = w := by
  have h3 : n ≤ 64 - a := by omega
  go_enter Try.func21, Try.ntmps21
  go_wp2
  go_ret
  exact ⟨rfl, rfl⟩

/-- No field: the place is below 0, or the width below 1, or they reach beyond 64. -/
structure NoField (a n : Int) : Prop where
  lo : -9223372036854775808 ≤ a
  hi : a ≤ 9223372036854775807
  no : a < 0 ∨ n < 1 ∨ 64 < a + n

theorem mayBe_no (a n : Int) (w : World) (hno : NoField a n) :
    Calls Try.prog 21 #[.int .i64 a, .int .i64 n] w fun e w' => e = .returned (.bool false) ∧ w' = w := by
  obtain ⟨ha, ha', h⟩ := hno
  by_cases h0 : 0 ≤ a
  · by_cases h1 : 1 ≤ n
    · have h3 : ¬ n ≤ 64 - a := by omega
      clear h
      go_enter Try.func21, Try.ntmps21
      go_wp2
      go_ret
      exact ⟨rfl, rfl⟩
    · clear h
      go_enter Try.func21, Try.ntmps21
      go_wp2
      go_ret
      exact ⟨rfl, rfl⟩
  · clear h
    go_enter Try.func21, Try.ntmps21
    go_wp2
    go_ret
    exact ⟨rfl, rfl⟩

theorem get_yes (x a n : Int) (w : World) (hx0 : 0 ≤ x) (hx : x ≤ 18446744073709551615) (h0 : 0 ≤ a) (h1 : 1 ≤ n) (h2 : a + n ≤ 64) :
    Calls Try.prog 10 #[.int .u64 x, .int .i64 a, .int .i64 n] w fun e w' => e = .returned (.tuple #[.int .u64 (getI x a n), .int .i64 0]) ∧ w' = w := by
  have hb := onesI_bd n (by omega)
  go_enter Try.func10, Try.ntmps10
  go_wp2_with (first | (go_at_call 21; refine (mayBe_yes _ _ _ h0 h1 h2).mono ?_; rintro e w' ⟨rfl, rfl⟩) | (go_at_call 22; refine (ones_any _ _ h1 (by omega)).mono ?_; rintro e w' ⟨rfl, rfl⟩))
  go_ret2
  exact ⟨ret_pair (get_bits x a n hx0 hx h0 (by omega) h2), rfl⟩

theorem get_no (x a n : Int) (w : World) (hno : NoField a n) :
    Calls Try.prog 10 #[.int .u64 x, .int .i64 a, .int .i64 n] w fun e w' => e = .returned (.tuple #[.int .u64 0, .int .i64 1]) ∧ w' = w := by
  go_enter Try.func10, Try.ntmps10
  go_wp2_with (go_at_call 21; refine (mayBe_no _ _ _ hno).mono ?_; rintro e w' ⟨rfl, rfl⟩)
  go_ret2
  exact ⟨rfl, rfl⟩

theorem put_yes (x a n v : Int) (w : World) (hx0 : 0 ≤ x) (hx : x ≤ 18446744073709551615) (h0 : 0 ≤ a) (h1 : 1 ≤ n) (h2 : a + n ≤ 64) (hv0 : 0 ≤ v) (hv : v ≤ onesI n) :
    Calls Try.prog 12 #[.int .u64 x, .int .i64 a, .int .i64 n, .int .u64 v] w fun e w' => e = .returned (.tuple #[.int .u64 (putI x a n v), .int .i64 0]) ∧ w' = w := by
  have hb := onesI_bd n (by omega)
  go_enter Try.func12, Try.ntmps12
  go_wp2_with (first | (go_at_call 21; refine (mayBe_yes _ _ _ h0 h1 h2).mono ?_; rintro e w' ⟨rfl, rfl⟩) | (go_at_call 22; refine (ones_any _ _ h1 (by omega)).mono ?_; rintro e w' ⟨rfl, rfl⟩))
  go_ret2
  exact ⟨ret_pair (put_bits x a n v hx0 hx h0 (by omega) h2 hv0 hv), rfl⟩

theorem put_range (x a n v : Int) (w : World) (h0 : 0 ≤ a) (h1 : 1 ≤ n) (h2 : a + n ≤ 64) (hv : onesI n < v) :
    Calls Try.prog 12 #[.int .u64 x, .int .i64 a, .int .i64 n, .int .u64 v] w fun e w' => e = .returned (.tuple #[.int .u64 0, .int .i64 2]) ∧ w' = w := by
  have hb := onesI_bd n (by omega)
  go_enter Try.func12, Try.ntmps12
  go_wp2_with (first | (go_at_call 21; refine (mayBe_yes _ _ _ h0 h1 h2).mono ?_; rintro e w' ⟨rfl, rfl⟩) | (go_at_call 22; refine (ones_any _ _ h1 (by omega)).mono ?_; rintro e w' ⟨rfl, rfl⟩))
  go_ret2
  exact ⟨rfl, rfl⟩

theorem put_no (x a n v : Int) (w : World) (hno : NoField a n) :
    Calls Try.prog 12 #[.int .u64 x, .int .i64 a, .int .i64 n, .int .u64 v] w fun e w' => e = .returned (.tuple #[.int .u64 0, .int .i64 1]) ∧ w' = w := by
  go_enter Try.func12, Try.ntmps12
  go_wp2_with (go_at_call 21; refine (mayBe_no _ _ _ hno).mono ?_; rintro e w' ⟨rfl, rfl⟩)
  go_ret2
  exact ⟨rfl, rfl⟩

end Go.Proofs.Ytbalicoebnplmaa
