/- Contracts of Hash and Bucket and of the document's: each answers one value and leaves memory as it was. -/
import Derived.Test.YtlpikfebbfcofaaDoorBase
namespace Go.Proofs.YtlpikfebbfcofaaDoor
open Go.RowKit

def bAt (s : ByteArray) (k : Nat) : Nat := if h : k < s.size then s[k].toNat else 0
theorem bAt_eq (s : ByteArray) (k : Nat) (h : k < s.size) : bAt s k = s[k].toNat := by unfold bAt; rw [dif_pos h]
def hashN (b : Nat → Nat) : Nat → Nat
  | 0 => 14695981039346656037
  | k + 1 => (hashN b k ^^^ b k) * 1099511628211 % 18446744073709551616
theorem hashN_succ (b : Nat → Nat) (k : Nat) : hashN b (k + 1) = (hashN b k ^^^ b k) * 1099511628211 % 18446744073709551616 := by rw [hashN]
theorem hashN_lt (b : Nat → Nat) (k : Nat) : hashN b k < 18446744073709551616 := by
  cases k with
  | zero => unfold hashN; omega
  | succ k => unfold hashN; exact Nat.mod_lt _ (by omega)
theorem hash_step (s : ByteArray) (k : Nat) (hk : k < s.size) :
    IntKind.u64.wrap (bits .xor .u64 ((hashN (bAt s) k : Nat) : Int) ((s[k].toNat : Nat) : Int) * 1099511628211) = ((hashN (bAt s) (k + 1) : Nat) : Int) := by
  have h1 := hashN_lt (bAt s) k
  have h2 : s[k].toNat < 256 := UInt8.toNat_lt _
  rw [u64_xor_nat _ _ h1 (by omega), IntKind.wrap_u64]
  rw [hashN_succ, bAt_eq s k hk]
  generalize hashN (bAt s) k ^^^ s[k].toNat = z
  omega
def hs (s : ByteArray) : Nat := hashN (bAt s) s.size
theorem hs_lt (s : ByteArray) : hs s < 18446744073709551616 := hashN_lt _ _

set_option maxHeartbeats 400000 in
theorem hash_any (s : ByteArray) (w : World) (hsz : s.size ≤ maxLen) :
    Calls Tryd.prog 27 #[.string s] w fun e w' => e = .returned (.int .u64 (hs s : Nat)) ∧ w' = w := by
  unfold maxLen at hsz
  unfold hs
  go_enter Tryd.func27, Tryd.ntmps27
  go_wp2
  go_loop [3, 7] (fun h i => ∃ k : Nat, k ≤ s.size ∧ i = .int .i64 k ∧ h = .int .u64 (hashN (bAt s) k : Nat)) (fun _ i => s.size - (intOf i).toNat)
  case atStart => exact ⟨0, Nat.zero_le _, rfl, rfl⟩
  case round =>
    obtain ⟨k, hk, rfl, rfl⟩ := hrel
    by_cases hlt : k < s.size
    · have hb := hashN_lt (bAt s) k
      have h8 : s[k].toNat < 256 := UInt8.toNat_lt _
      go_wp2
      go_round
      case rel => exact ⟨k + 1, by omega, by go_num, by rw [← hash_step s k hlt]⟩
      case measure => simp [intOf]; omega
    · have e : k = s.size := by omega
      subst e
      go_wp2
      go_ret
      exact ⟨rfl, rfl⟩

set_option maxHeartbeats 400000 in
theorem refHash_any (s : ByteArray) (w : World) (hsz : s.size ≤ maxLen) :
    Calls Tryd.prog 28 #[.string s] w fun e w' => e = .returned (.int .u64 (hs s : Nat)) ∧ w' = w := by
  unfold maxLen at hsz
  unfold hs
  go_enter Tryd.func28, Tryd.ntmps28
  go_wp2
  go_loop [3, 4] (fun h i => ∃ k : Nat, k ≤ s.size ∧ i = .int .i64 k ∧ h = .int .u64 (hashN (bAt s) k : Nat)) (fun _ i => s.size - (intOf i).toNat)
  case atStart => exact ⟨0, Nat.zero_le _, rfl, rfl⟩
  case round =>
    obtain ⟨k, hk, rfl, rfl⟩ := hrel
    by_cases hlt : k < s.size
    · have hb := hashN_lt (bAt s) k
      have h8 : s[k].toNat < 256 := UInt8.toNat_lt _
      go_wp2
      go_round
      case rel => exact ⟨k + 1, by omega, by go_num, by rw [← hash_step s k hlt]⟩
      case measure => simp [intOf]; omega
    · have e : k = s.size := by omega
      subst e
      go_wp2
      go_ret
      exact ⟨rfl, rfl⟩

/-- a name's place -/
def bk (s : ByteArray) (n : Int) : Int := if n < 1 then 0 else (hs s : Int) % n
theorem bk_lt (s : ByteArray) (n : Int) (h : 1 ≤ n) : 0 ≤ bk s n ∧ bk s n < n := by
  unfold bk; rw [if_neg (by omega)]
  exact ⟨Int.emod_nonneg _ (by omega), Int.emod_lt_of_pos _ (by omega)⟩

theorem bucket_any (s : ByteArray) (n : Int) (w : World) (hsz : s.size ≤ maxLen) (h0 : -9223372036854775808 ≤ n) (h1 : n ≤ 9223372036854775807) :
    Calls Tryd.prog 18 #[.string s, .int .i64 n] w fun e w' => e = .returned (.int .i64 (bk s n)) ∧ w' = w := by
  by_cases hn : n < 1
  · have E : Hid (bk s n = 0) := by show bk s n = 0; unfold bk; rw [if_pos hn]
    go_enter Tryd.func18, Tryd.ntmps18
    go_wp2
    go_ret
    exact ⟨ret_int E.out.symm, rfl⟩
  · have E : Hid (bk s n = (hs s : Int) % n) := by show bk s n = _; unfold bk; rw [if_neg hn]
    have hl := hs_lt s
    have m0 : 0 ≤ (hs s : Int) % n := Int.emod_nonneg _ (by omega)
    have m1 : (hs s : Int) % n < n := Int.emod_lt_of_pos _ (by omega)
    go_enter Tryd.func18, Tryd.ntmps18
    go_wp2_with (go_at_call 27; refine (hash_any _ _ hsz).mono ?_; rintro e w' ⟨rfl, rfl⟩)
    go_ret
    exact ⟨ret_int E.out.symm, rfl⟩

theorem refBucket_any (s : ByteArray) (n : Int) (w : World) (hsz : s.size ≤ maxLen) (h0 : -9223372036854775808 ≤ n) (h1 : n ≤ 9223372036854775807) :
    Calls Tryd.prog 19 #[.string s, .int .i64 n] w fun e w' => e = .returned (.int .i64 (bk s n)) ∧ w' = w := by
  by_cases hn : n < 1
  · have E : Hid (bk s n = 0) := by show bk s n = 0; unfold bk; rw [if_pos hn]
    go_enter Tryd.func19, Tryd.ntmps19
    go_wp2
    go_ret
    exact ⟨ret_int E.out.symm, rfl⟩
  · have E : Hid (bk s n = (hs s : Int) % n) := by show bk s n = _; unfold bk; rw [if_neg hn]
    have hl := hs_lt s
    have m0 : 0 ≤ (hs s : Int) % n := Int.emod_nonneg _ (by omega)
    have m1 : (hs s : Int) % n < n := Int.emod_lt_of_pos _ (by omega)
    go_enter Tryd.func19, Tryd.ntmps19
    go_wp2_with (go_at_call 28; refine (refHash_any _ _ hsz).mono ?_; rintro e w' ⟨rfl, rfl⟩)
    go_ret
    exact ⟨ret_int E.out.symm, rfl⟩

end Go.Proofs.YtlpikfebbfcofaaDoor
