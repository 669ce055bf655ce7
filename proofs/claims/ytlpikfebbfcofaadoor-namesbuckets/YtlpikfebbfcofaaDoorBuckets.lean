/- The walk of NamesBuckets: for every name and number it answers true. -/
import Derived.Test.YtlpikfebbfcofaaDoorLives
import Derived.Test.YtlpikfebbfcofaaDoorHash
namespace Go.Proofs.YtlpikfebbfcofaaDoor.namesBuckets
open Go.RowKit

theorem bk_half (s : ByteArray) (n : Int) (h : 1 ≤ n) : bk s (2 * n) % n = bk s n := by
  unfold bk
  rw [if_neg (by omega), if_neg (by omega)]
  exact Int.emod_emod_of_dvd _ (Int.dvd_mul_left 2 n)
theorem bk_one (s : ByteArray) : bk s 1 = 0 := by unfold bk; rw [if_neg (by omega)]; exact Int.emod_one _
theorem bk_zero (s : ByteArray) : bk s 0 = 0 := by unfold bk; rw [if_pos (by omega)]
theorem app_none (s : ByteArray) : s ++ (⟨#[]⟩ : ByteArray) = s := ls_inj (by rw [ls_append]; simp [ls])

set_option maxHeartbeats 1000000 in
theorem walk (s : ByteArray) (n : Int) (w : World) (hm : HM w) (hs : s.size ≤ 140737488351232) (_n0 : -9223372036854775808 ≤ n) (_n1 : n ≤ 9223372036854775807) :
    Calls Tryd.prog 7 #[.string s, .int .i64 n] w fun e w' => e = .returned (.bool true) ∧ Below w.heap.size w w' := by
  have hml : s.size ≤ maxLen := by unfold maxLen; omega
  have hw := app_none s
  obtain ⟨k, hk, k0, k1⟩ : ∃ k : Int, (IntKind.u64.wrap n).tmod 1000 = k ∧ 0 ≤ k ∧ k < 1000 := by
    have h0 : 0 ≤ IntKind.u64.wrap n := by rw [IntKind.wrap_u64]; omega
    exact ⟨_, rfl, Int.tmod_nonneg _ h0, Int.tmod_lt_of_pos _ (by omega)⟩
  have b1 := bk_lt s (1 + k) (by omega)
  have b2 := bk_lt s (2 * (1 + k)) (by omega)
  have HH : Hid (bk s (2 * (1 + k)) % (1 + k) = bk s (1 + k)) := bk_half s (1 + k) (by omega)
  have H1 : Hid (∀ w, Calls Tryd.prog 18 #[.string s, .int .i64 (1 + k)] w fun e w' => e = .returned (.int .i64 (bk s (1 + k))) ∧ w' = w) := fun w => bucket_any s (1 + k) w hml (by omega) (by omega)
  have H2 : Hid (∀ w, Calls Tryd.prog 18 #[.string s, .int .i64 (2 * (1 + k))] w fun e w' => e = .returned (.int .i64 (bk s (2 * (1 + k)))) ∧ w' = w) := fun w => bucket_any s (2 * (1 + k)) w hml (by omega) (by omega)
  have H3 : Hid (∀ w, Calls Tryd.prog 18 #[.string s, .int .i64 1] w fun e w' => e = .returned (.int .i64 0) ∧ w' = w) := fun w => bk_one s ▸ bucket_any s 1 w hml (by omega) (by omega)
  have H4 : Hid (∀ w, Calls Tryd.prog 18 #[.string s, .int .i64 0] w fun e w' => e = .returned (.int .i64 0) ∧ w' = w) := fun w => bk_zero s ▸ bucket_any s 0 w hml (by omega) (by omega)
  obtain ⟨x, hx⟩ : ∃ x, bk s (1 + k) = x := ⟨_, rfl⟩
  obtain ⟨y, hy⟩ : ∃ y, bk s (2 * (1 + k)) = y := ⟨_, rfl⟩
  rw [hx] at b1 HH H1
  rw [hy] at b2 HH H2
  clear hx hy
  obtain ⟨x0, x1⟩ := b1
  obtain ⟨y0, y1⟩ := b2
  have hyx := HH.out
  clear HH
  go_enter Tryd.func7, Tryd.ntmps7
  go_wp2_with fail
  refine (lives_any _ hm).mono ?_
  rintro e w1 ⟨rfl, hb1⟩
  go_wp2_with fail
  refine Calls.mono (Hid.out H1 _) ?_
  rintro e w2 ⟨rfl, rfl⟩
  go_wp2_with fail
  refine Calls.mono (Hid.out H2 _) ?_
  rintro e w2 ⟨rfl, rfl⟩
  go_wp2_with fail
  refine Calls.mono (Hid.out H3 _) ?_
  rintro e w2 ⟨rfl, rfl⟩
  go_wp2_with fail
  refine Calls.mono (Hid.out H4 _) ?_
  rintro e w2 ⟨rfl, rfl⟩
  go_wp2_with fail
  refine Calls.mono (Hid.out H1 _) ?_
  rintro e w2 ⟨rfl, rfl⟩
  go_wp2
  go_ret
  exact ⟨rfl, hb1⟩
end Go.Proofs.YtlpikfebbfcofaaDoor.namesBuckets
