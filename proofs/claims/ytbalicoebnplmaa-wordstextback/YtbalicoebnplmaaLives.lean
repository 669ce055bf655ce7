/- Hash's contract for every text, and that the statements' head (a field, a text, a hash) answers true; nothing that was there changes. -/
import Derived.Test.YtbalicoebnplmaaText
namespace Go.Proofs.Ytbalicoebnplmaa
open Go.RowKit

def hashN (b : Nat → Nat) : Nat → Nat
  | 0 => 14695981039346656037
  | k + 1 => (hashN b k ^^^ b k) * 1099511628211 % 18446744073709551616
theorem hashN_succ (b : Nat → Nat) (k : Nat) : hashN b (k + 1) = (hashN b k ^^^ b k) * 1099511628211 % 18446744073709551616 := by rw [hashN]
theorem hashN_lt (b : Nat → Nat) (k : Nat) : hashN b k < 18446744073709551616 := by
  cases k with
  | zero => unfold hashN; omega
  | succ k => unfold hashN; exact Nat.mod_lt _ (by omega)
theorem hash_step (s : ByteArray) (k : Nat) (hk : k < s.size) :
    IntKind.u64.wrap (bits .xor .u64 ((hashN (bAt s) k : Nat) : Int) ((s[k].toNat : Nat) : Int) * 1099511628211) = ((hashN (bAt s) (k + 1) : Nat) : Int) := by
  have h1 := hashN_lt (bAt s) k
  have h2 : s[k].toNat < 256 := UInt8.toNat_lt _
  rw [u64_xor_nat _ _ h1 (by omega), IntKind.wrap_u64]
  rw [hashN_succ, bAt_eq s k hk]
  generalize hashN (bAt s) k ^^^ s[k].toNat = z
  omega

set_option maxHeartbeats 400000 in
theorem hash_any (s : ByteArray) (w : World) (hs : s.size ≤ maxLen) :
    Calls Try.prog 19 #[.string s] w fun e w' => e = .returned (.int .u64 (hashN (bAt s) s.size : Nat)) ∧ w' = w := by
  unfold maxLen at hs
  go_enter Try.func19, Try.ntmps19
  go_wp2
  go_loop [3, 7] (fun h i => ∃ k : Nat, k ≤ s.size ∧ i = .int .i64 k ∧ h = .int .u64 (hashN (bAt s) k : Nat)) (fun _ i => s.size - (intOf i).toNat)
  case atStart => exact ⟨0, Nat.zero_le _, rfl, rfl⟩
  case round =>
    obtain ⟨k, hk, rfl, rfl⟩ := hrel
    by_cases hlt : k < s.size
    · have hb := hashN_lt (bAt s) k
      have h8 : s[k].toNat < 256 := UInt8.toNat_lt _
      go_wp2
      go_round
      case rel => exact ⟨k + 1, by omega, by go_num, by rw [← hash_step s k hlt]⟩
      case measure => simp [intOf]; omega
    · have e : k = s.size := by omega
      subst e
      go_wp2
      go_ret
      exact ⟨rfl, rfl⟩

theorem ab_word : tw (bAt ⟨#[97, 98]⟩) 2 0 = 25185 := by decide
theorem put_lives : putI 0 4 8 255 = 4080 := by decide

theorem put_lives_call (w : World) :
    Calls Try.prog 12 #[.int .u64 0, .int .i64 4, .int .i64 8, .int .u64 255] w fun e w' => e = .returned (.tuple #[.int .u64 4080, .int .i64 0]) ∧ w' = w := by
  have hp := put_yes 0 4 8 255 w (by omega) (by omega) (by omega) (by omega) (by omega) (by omega) (by decide)
  rw [put_lives] at hp
  exact hp

set_option maxHeartbeats 400000 in
theorem lives_any (w : World) :
    Calls Try.prog 9 #[] w fun e w' => e = .returned (.bool true) ∧ Below w.heap.size w w' := by
  go_enter Try.func9, Try.ntmps9
  go_wp2_with fail
  refine (put_lives_call _).mono ?_
  rintro e w' ⟨rfl, rfl⟩
  go_wp2_with fail
  refine (text_yes ⟨#[97, 98]⟩ 1 _ (by omega) (by decide)).mono ?_
  rintro e w1 ⟨rfl, hown, hb⟩
  have hcell : w1.cell? ⟨w'.heap.size, 0, none⟩ = some (.int .u64 25185) := by
    rw [hown.cellAt 0 (by omega), rowOf_at _ _ _ (by omega)]
    show some (Value.int .u64 ((tw (bAt ⟨#[97, 98]⟩) 2 0 : Nat) : Int)) = _
    rw [ab_word]; rfl
  clear hown
  go_wp2_with (go_at_call 19; refine (hash_any _ _ (by decide)).mono ?_; rintro e w2 ⟨rfl, rfl⟩)
  go_ret
  exact ⟨rfl, hb⟩

end Go.Proofs.Ytbalicoebnplmaa
