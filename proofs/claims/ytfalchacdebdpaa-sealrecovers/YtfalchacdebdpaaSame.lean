/- Contract of the document's comparison of two lists of words, at lists with the same words. -/
import Derived.Test.YtfalchacdebdpaaPlanB
namespace Go.Proofs.Ytfalchacdebdpaa
open Go.RowKit

set_option maxHeartbeats 1000000 in
theorem same_eq (w : World) (a b : Option Addr) (ca cb n : Nat) (f : Nat → Int) (hx : UAt w a n f) (hy : UAt w b n f) (hn : n ≤ 1000000) :
    Calls Try.prog 18 #[.slice a n ca, .slice b n cb] w fun e w' => e = .returned (.bool true) ∧ ∃ q, w' = w.drewN q := by
  by_cases h0 : n = 0
  · subst h0
    clear hx hy
    go_enter Try.func18, Try.ntmps18
    go_wp2
    refine wp_loop_rounds 1 ?_
    rw [rounds_succ]
    go_wp2
    go_ret
    exact ⟨rfl, 0, rfl⟩
  · obtain ⟨xb, xo, rfl, hxb, hxc⟩ := hx.resolve_left h0
    obtain ⟨yb, yo, rfl, hyb, hyc⟩ := hy.resolve_left h0
    have HX : Hid (∀ i, i < n → w.cell? ⟨xb, xo + i, none⟩ = some (.int .u64 (f i))) := hxc
    have HY : Hid (∀ i, i < n → w.cell? ⟨yb, yo + i, none⟩ = some (.int .u64 (f i))) := hyc
    clear hx hy hxc hyc h0
    go_enter Try.func18, Try.ntmps18
    go_wp2
    go_loopw [5] (fun i wr => ∃ k m : Nat, k ≤ n ∧ i = .int .i64 k ∧ wr = w.drewN m) (fun i _ => n - (intOf i).toNat)
    case atStart => exact ⟨0, 0, Nat.zero_le _, rfl, rfl⟩
    case round =>
      obtain ⟨k, m, hk, rfl, rfl⟩ := hrel
      by_cases hlt : k < n
      · have hkn : (k : Int) < (n : Int) := by omega
        have x1 := HX.out k hlt
        have y1 := HY.out k hlt
        obtain ⟨X, hX⟩ : ∃ X, f k = X := ⟨_, rfl⟩
        rw [hX] at x1 y1
        have hb : (X != X) = false := by simp
        clear hX
        go_wp2
        go_quiet (fail)
        go_wp2
        go_roundw
        case rel => exact ⟨k + 1, _, by omega, by go_num, rfl⟩
        case measure => simp [intOf]; omega
      · obtain rfl : k = n := by omega
        go_wp2
        go_ret
        exact ⟨rfl, m, rfl⟩

end Go.Proofs.Ytfalchacdebdpaa
