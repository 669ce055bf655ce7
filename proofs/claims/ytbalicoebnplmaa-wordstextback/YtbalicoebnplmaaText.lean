/- Text's contract: for every text of at most 8n bytes and every n from 0 to 64 it answers n new words that hold the text's bytes, and OK; else why not. Nothing that was there changes. -/
import Derived.Test.YtbalicoebnplmaaBase
import Derived.Deep.RegionWith
namespace Go.Proofs.Ytbalicoebnplmaa
open Go.RowKit

theorem Try.info22 : (Try.prog.info? 22).map (fun i => (i.zero, i.size, i.bytes)) = some (some (.int .u64 0), 1, 8) := by kernel_rfl

theorem made_row (n : Nat) (b : Nat → Nat) : (madeCells #[Value.int .u64 0] n).toList = rowOf (tw b 0) n := by
  rw [toList_madeCells_one]; exact rowOf_zero n _ fun _ => rfl

set_option maxHeartbeats 800000 in
theorem text_yes (s : ByteArray) (n : Nat) (w : World) (hn : n ≤ 64) (hs : s.size ≤ 8 * n) :
    Calls Try.prog 14 #[.string s, .int .i64 n] w fun e w' => e = .returned (.tuple #[.slice (some ⟨w.heap.size, 0, none⟩) n n, .int .i64 0]) ∧
      w'.ownsRow w.heap.size 22 1 (.slice (some ⟨w.heap.size, 0, none⟩) n n) n (rowOf (tw (bAt s) s.size) n) ∧ Below w.heap.size w w' := by
  obtain ⟨i0, hi, hz0, hz1, hz2⟩ := info_parts Try.info22
  go_enter Try.func14, Try.ntmps14
  go_wp2_with (at_make; refine wpList_make_full _ rfl _ _ 32 rfl w.heap.size 22 i0 (.int .u64 0) 1 Try.underlying32 hi hz0 hz1 _ _ _ _ n rfl rfl rfl rfl ?b2 ?b3 (Nat.le_refl _) ?_)
  case b2 => rw [hz2]; omega
  case b3 => unfold maxLen; omega
  intro w0 hown0 hgrow0
  go_wp2
  go_loopw [23] (fun i wr => ∃ k : Nat, k ≤ s.size ∧ i = .int .i64 k ∧ wr.ownsRow w.heap.size 22 1 (.slice (some ⟨w.heap.size, 0, none⟩) n n) n (rowOf (tw (bAt s) k) n) ∧ Below w.heap.size w wr) (fun i _ => s.size - (intOf i).toNat)
  case atStart => exact ⟨0, Nat.zero_le _, rfl, by rw [← made_row]; exact hown0, (Below.refl _ _).grown hgrow0 (Nat.le_refl _) (fun k h => by cases h)⟩
  case round =>
    obtain ⟨k, hk, rfl, hown, hnx⟩ := hrel
    by_cases hlt : k < s.size
    · obtain ⟨q, hq⟩ : ∃ q, q = k / 8 := ⟨_, rfl⟩
      have hk8 : q < n := by omega
      have hcell : wr.cell? ⟨w.heap.size, q, none⟩ = some (.int .u64 (tw (bAt s) k q : Nat)) := by rw [hown.cellAt _ (by omega), rowOf_at _ _ _ hk8]
      have hfz : wr.frozen? ⟨w.heap.size, q, none⟩ = false := hown.frozenAt _
      have hb2 : (k : Int) < (s.size : Int) := by omega
      have hb1 : (q : Int) < (n : Int) := by omega
      have hwq : IntKind.i64.wrap ((k : Int) / 8) = (q : Int) := by simp only [IntKind.wrap_i64]; omega
      have HS : Hid (bits .or .u64 ((tw (bAt s) k q : Nat) : Int) (IntKind.u64.wrap (IntKind.u64.wrap ((s[k].toNat : Nat) : Int) * 2 ^ (k % 8 * 8))) = ((tw (bAt s) (k + 1) q : Nat) : Int)) := text_step s k q hlt hq
      have HR : Hid ((rowOf (tw (bAt s) k) n).set q (.int .u64 ((tw (bAt s) (k + 1) q : Nat) : Int)) = rowOf (tw (bAt s) (k + 1)) n) := text_rows (bAt s) k n q hq
      clear hq
      go_wp2
      go_region_with (go_at_call 25; refine (place_any _ _ (by omega) (by omega)).mono ?_; rintro e w' ⟨rfl, rfl⟩)
      all_goals
        go_wp2
        go_roundw
        case rel => exact ⟨k + 1, by omega, by go_num, by rw [HS.out, ← HR.out]; exact (hown.stored q _).1.drew, by exact (hnx.setCell (Nat.le_refl _) _).drew⟩
        case measure => simp [intOf]; omega
    · have e : k = s.size := by omega
      subst e
      go_wp2
      go_ret2
      exact ⟨rfl, hown, hnx⟩

theorem text_arg (s : ByteArray) (n : Int) (w : World) (h : n < 0 ∨ 64 < n) :
    Calls Try.prog 14 #[.string s, .int .i64 n] w fun e w' => e = .returned (.tuple #[.slice none 0 0, .int .i64 1]) ∧ w' = w := by
  rcases h with h | h
  · go_enter Try.func14, Try.ntmps14
    go_wp2
    go_ret2
    exact ⟨rfl, rfl⟩
  · have h' : ¬ n < 0 := by omega
    go_enter Try.func14, Try.ntmps14
    go_wp2
    go_ret2
    exact ⟨rfl, rfl⟩

theorem text_range (s : ByteArray) (n : Nat) (w : World) (hn : n ≤ 64) (hs : 8 * n < s.size) :
    Calls Try.prog 14 #[.string s, .int .i64 n] w fun e w' => e = .returned (.tuple #[.slice none 0 0, .int .i64 2]) ∧ w' = w := by
  go_enter Try.func14, Try.ntmps14
  go_wp2
  go_ret2
  exact ⟨rfl, rfl⟩

end Go.Proofs.Ytbalicoebnplmaa
