/- Proved: for every number, 'PlanCounts' returns true and its argument reads afterwards as before. No condition. -/
import Derived.Test.YtmpnofdgfminlaaRows
import Derived.Test.YtmpnofdgfminlaaRight
import Derived.ProofKit
import Derived.OpenShut
import Derived.SizedLaws
namespace Go.Proofs.Ytmpnofdgfminlaa.planCounts
open Go.ChangeShapes Go.WideShapes Go.ChangeAt Go.RowKit
set_option linter.unusedVariables false

theorem own : ownKnob Try.prog.godebug = none := by kernel_rfl
theorem laidOut : laidOutB Try.prog = true := by kernel_rfl

/-- How many of the words from lo to hi stand before k. -/
def cl (lo hi k : Int) : Int := if k < lo then 0 else if k < hi then k - lo else hi - lo
theorem cl_in {lo hi k : Int} (h : lo ≤ k) (h' : k < hi) : cl lo hi (k + 1) = cl lo hi k + 1 := by
  unfold cl; (repeat' split) <;> omega
theorem cl_out {lo hi k : Int} (hl : lo ≤ hi) (h : k < lo ∨ hi ≤ k) : cl lo hi (k + 1) = cl lo hi k := by
  unfold cl; (repeat' split) <;> omega
theorem cl_bd {lo hi k : Int} (hl : lo ≤ hi) : 0 ≤ cl lo hi k ∧ cl lo hi k ≤ hi - lo := by
  unfold cl; (repeat' split) <;> omega
def cn (k : Int) : Int := cl (-2) 0 k + cl 2824 2830 k

theorem same_counts : ∀ w : World, (Op.equalIn 10000 39 (.agg #[.int .i64 8, .int .i64 8, .int .i64 192, .int .i64 96, .int .i64 992, .int .i64 1536]) (.agg #[.int .i64 8, .int .i64 8, .int .i64 192, .int .i64 96, .int .i64 992, .int .i64 1536])).run Try.prog w = .ok true w := fun _ => by kernel_rfl

theorem rem_form (a : Int) : ∃ k : Int, wrap64 ((IntKind.u64.wrap a).tmod 96) = k ∧ 0 ≤ k ∧ k ≤ 95 := by
  refine ⟨(a % 18446744073709551616) % 96, ?_, by omega, by omega⟩
  rw [IntKind.wrap_u64, tmod_of_emod]
  unfold wrap64
  omega

set_option maxHeartbeats 2000000 in
theorem walk (x : Int) (w : World) (_hx : -9223372036854775808 ≤ x ∧ x ≤ 9223372036854775807) :
    Calls Try.prog 6 #[.int .i64 x] w fun e w' => e = .returned (.bool true) ∧ Below w.heap.size w w' := by
  clear _hx
  obtain ⟨q, hq, hq0, hq1⟩ := rem_form x
  go_enter Try.func6, Try.ntmps6
  go_wp2_with fail
  refine (lives_any _).mono ?_
  rintro e w1 ⟨rfl, hb⟩
  have hsz := hb.size
  go_wp2
  simp only [hq]
  clear hq
  go_loopw [4, 5, 6, 7] (fun wd a _ _ wr => ∃ k : Int, -2 ≤ k ∧ k ≤ 2830 ∧ a = .int .i64 k ∧ wd = .int .i64 (cl (1288 + 16 * q) (1304 + 16 * q) k) ∧ wr = w1.alloc (.cells #[.int .i64 (cn k), .int .i64 (cl 0 8 k), .int .i64 (cl 8 200 k), .int .i64 (cl 200 296 k), .int .i64 (cl 296 1288 k), .int .i64 (cl 1288 2824 k)] 39)) (fun _ a _ _ _ => (2830 - intOf a).toNat)
  case atStart =>
    refine ⟨-2, by omega, by omega, rfl, ?_, ?_⟩
    · have e : cl (1288 + 16 * q) (1304 + 16 * q) (-2) = 0 := by unfold cl; rw [if_pos (by omega)]
      rw [e]
    · rfl
  case round =>
    obtain ⟨k, hk0, hk1, rfl, rfl, rfl⟩ := hrel
    by_cases hlt : k < 2830
    · have HC : Hid (Calls Try.prog 9 #[.int .i64 k] (w1.alloc (.cells #[.int .i64 (cn k), .int .i64 (cl 0 8 k), .int .i64 (cl 8 200 k), .int .i64 (cl 200 296 k), .int .i64 (cl 296 1288 k), .int .i64 (cl 1288 2824 k)] 39)) fun e w' => e = .returned (.tuple #[.int .i64 (kindI k), .int .i64 (numI k)]) ∧ w' = (w1.alloc (.cells #[.int .i64 (cn k), .int .i64 (cl 0 8 k), .int .i64 (cl 8 200 k), .int .i64 (cl 200 296 k), .int .i64 (cl 296 1288 k), .int .i64 (cl 1288 2824 k)] 39))) := what_any k _
      have HO : ∀ w, Hid (Calls Try.prog 12 #[.int .i64 k] w fun e w' => e = .returned (.bool (openB k)) ∧ w' = w) := fun w => open_any k w
      rcases places k with h | h | ⟨h, h'⟩ | ⟨h, h'⟩ | ⟨h, h'⟩ | ⟨h, h'⟩ | ⟨h, h'⟩
      · have HB : Hid (openB k = false) := by show _ = _; unfold openB; rw [(ki_neg h).1]; rfl
        rw [(ki_neg h).1] at HC
        have f1 : cl 0 8 (k + 1) = cl 0 8 k := cl_out (by omega) (by omega)
        have f2 : cl 8 200 (k + 1) = cl 8 200 k := cl_out (by omega) (by omega)
        have f3 : cl 200 296 (k + 1) = cl 200 296 k := cl_out (by omega) (by omega)
        have f4 : cl 296 1288 (k + 1) = cl 296 1288 k := cl_out (by omega) (by omega)
        have f5 : cl 1288 2824 (k + 1) = cl 1288 2824 k := cl_out (by omega) (by omega)
        have f0 : cn (k + 1) = cn k + 1 := by unfold cn; rw [cl_in (by omega) (by omega), cl_out (by omega) (by omega)]; omega
        have f6 : cl (1288 + 16 * q) (1304 + 16 * q) (k + 1) = cl (1288 + 16 * q) (1304 + 16 * q) k := cl_out (by omega) (by omega)
        have F : Hid (cn (k + 1) = _ ∧ cl 0 8 (k + 1) = _ ∧ cl 8 200 (k + 1) = _ ∧ cl 200 296 (k + 1) = _ ∧ cl 296 1288 (k + 1) = _ ∧ cl 1288 2824 (k + 1) = _ ∧ cl (1288 + 16 * q) (1304 + 16 * q) (k + 1) = _) := ⟨f0, f1, f2, f3, f4, f5, f6⟩
        clear f0 f1 f2 f3 f4 f5 f6
        have b0 : 0 ≤ cn k ∧ cn k ≤ 8 := by have x1 := cl_bd (lo := -2) (hi := 0) (k := k) (by omega); have x2 := cl_bd (lo := 2824) (hi := 2830) (k := k) (by omega); unfold cn; omega
        have b1 := cl_bd (lo := 0) (hi := 8) (k := k) (by omega)
        have b2 := cl_bd (lo := 8) (hi := 200) (k := k) (by omega)
        have b3 := cl_bd (lo := 200) (hi := 296) (k := k) (by omega)
        have b4 := cl_bd (lo := 296) (hi := 1288) (k := k) (by omega)
        have b5 := cl_bd (lo := 1288) (hi := 2824) (k := k) (by omega)
        have b6 := cl_bd (lo := 1288 + 16 * q) (hi := 1304 + 16 * q) (k := k) (by omega)
        generalize cn k = x0 at *
        generalize cl 0 8 k = x1 at *
        generalize cl 8 200 k = x2 at *
        generalize cl 200 296 k = x3 at *
        generalize cl 296 1288 k = x4 at *
        generalize cl 1288 2824 k = x5 at *
        generalize cl (1288 + 16 * q) (1304 + 16 * q) k = x6 at *
        go_wp2_with fail
        refine Calls.mono (Hid.out HC) ?_
        rintro e w' ⟨rfl, rfl⟩
        go_wp2_with fail
        refine Calls.mono (Hid.out (HO _)) ?_
        rintro e w' ⟨rfl, rfl⟩
        rw [Hid.out HB]
        go_wp2
        go_roundw
        case rel =>
          obtain ⟨f0, f1, f2, f3, f4, f5, f6⟩ := Hid.out F
          exact ⟨k + 1, by omega, by omega, rfl, by rw [f6], by rw [f0, f1, f2, f3, f4, f5]⟩
        case measure => simp [intOf]; omega
      · have HB : Hid (openB k = false) := by show _ = _; unfold openB; rw [(ki_far h).1]; rfl
        rw [(ki_far h).1] at HC
        have f1 : cl 0 8 (k + 1) = cl 0 8 k := cl_out (by omega) (by omega)
        have f2 : cl 8 200 (k + 1) = cl 8 200 k := cl_out (by omega) (by omega)
        have f3 : cl 200 296 (k + 1) = cl 200 296 k := cl_out (by omega) (by omega)
        have f4 : cl 296 1288 (k + 1) = cl 296 1288 k := cl_out (by omega) (by omega)
        have f5 : cl 1288 2824 (k + 1) = cl 1288 2824 k := cl_out (by omega) (by omega)
        have f0 : cn (k + 1) = cn k + 1 := by unfold cn; rw [cl_out (by omega) (by omega), cl_in (lo := 2824) (by omega) (by omega)]; omega
        have f6 : cl (1288 + 16 * q) (1304 + 16 * q) (k + 1) = cl (1288 + 16 * q) (1304 + 16 * q) k := cl_out (by omega) (by omega)
        have F : Hid (cn (k + 1) = _ ∧ cl 0 8 (k + 1) = _ ∧ cl 8 200 (k + 1) = _ ∧ cl 200 296 (k + 1) = _ ∧ cl 296 1288 (k + 1) = _ ∧ cl 1288 2824 (k + 1) = _ ∧ cl (1288 + 16 * q) (1304 + 16 * q) (k + 1) = _) := ⟨f0, f1, f2, f3, f4, f5, f6⟩
        clear f0 f1 f2 f3 f4 f5 f6
        have b0 : 0 ≤ cn k ∧ cn k ≤ 8 := by have x1 := cl_bd (lo := -2) (hi := 0) (k := k) (by omega); have x2 := cl_bd (lo := 2824) (hi := 2830) (k := k) (by omega); unfold cn; omega
        have b1 := cl_bd (lo := 0) (hi := 8) (k := k) (by omega)
        have b2 := cl_bd (lo := 8) (hi := 200) (k := k) (by omega)
        have b3 := cl_bd (lo := 200) (hi := 296) (k := k) (by omega)
        have b4 := cl_bd (lo := 296) (hi := 1288) (k := k) (by omega)
        have b5 := cl_bd (lo := 1288) (hi := 2824) (k := k) (by omega)
        have b6 := cl_bd (lo := 1288 + 16 * q) (hi := 1304 + 16 * q) (k := k) (by omega)
        generalize cn k = x0 at *
        generalize cl 0 8 k = x1 at *
        generalize cl 8 200 k = x2 at *
        generalize cl 200 296 k = x3 at *
        generalize cl 296 1288 k = x4 at *
        generalize cl 1288 2824 k = x5 at *
        generalize cl (1288 + 16 * q) (1304 + 16 * q) k = x6 at *
        go_wp2_with fail
        refine Calls.mono (Hid.out HC) ?_
        rintro e w' ⟨rfl, rfl⟩
        go_wp2_with fail
        refine Calls.mono (Hid.out (HO _)) ?_
        rintro e w' ⟨rfl, rfl⟩
        rw [Hid.out HB]
        go_wp2
        go_roundw
        case rel =>
          obtain ⟨f0, f1, f2, f3, f4, f5, f6⟩ := Hid.out F
          exact ⟨k + 1, by omega, by omega, rfl, by rw [f6], by rw [f0, f1, f2, f3, f4, f5]⟩
        case measure => simp [intOf]; omega
      · have HB : Hid (openB k = false) := by show _ = _; unfold openB; rw [(ki_head h h').1]; rfl
        rw [(ki_head h h').1] at HC
        have f1 : cl 0 8 (k + 1) = cl 0 8 k + 1 := cl_in (by omega) (by omega)
        have f2 : cl 8 200 (k + 1) = cl 8 200 k := cl_out (by omega) (by omega)
        have f3 : cl 200 296 (k + 1) = cl 200 296 k := cl_out (by omega) (by omega)
        have f4 : cl 296 1288 (k + 1) = cl 296 1288 k := cl_out (by omega) (by omega)
        have f5 : cl 1288 2824 (k + 1) = cl 1288 2824 k := cl_out (by omega) (by omega)
        have f0 : cn (k + 1) = cn k := by unfold cn; rw [cl_out (by omega) (by omega), cl_out (by omega) (by omega)]
        have f6 : cl (1288 + 16 * q) (1304 + 16 * q) (k + 1) = cl (1288 + 16 * q) (1304 + 16 * q) k := cl_out (by omega) (by omega)
        have F : Hid (cn (k + 1) = _ ∧ cl 0 8 (k + 1) = _ ∧ cl 8 200 (k + 1) = _ ∧ cl 200 296 (k + 1) = _ ∧ cl 296 1288 (k + 1) = _ ∧ cl 1288 2824 (k + 1) = _ ∧ cl (1288 + 16 * q) (1304 + 16 * q) (k + 1) = _) := ⟨f0, f1, f2, f3, f4, f5, f6⟩
        clear f0 f1 f2 f3 f4 f5 f6
        have b0 : 0 ≤ cn k ∧ cn k ≤ 8 := by have x1 := cl_bd (lo := -2) (hi := 0) (k := k) (by omega); have x2 := cl_bd (lo := 2824) (hi := 2830) (k := k) (by omega); unfold cn; omega
        have b1 := cl_bd (lo := 0) (hi := 8) (k := k) (by omega)
        have b2 := cl_bd (lo := 8) (hi := 200) (k := k) (by omega)
        have b3 := cl_bd (lo := 200) (hi := 296) (k := k) (by omega)
        have b4 := cl_bd (lo := 296) (hi := 1288) (k := k) (by omega)
        have b5 := cl_bd (lo := 1288) (hi := 2824) (k := k) (by omega)
        have b6 := cl_bd (lo := 1288 + 16 * q) (hi := 1304 + 16 * q) (k := k) (by omega)
        generalize cn k = x0 at *
        generalize cl 0 8 k = x1 at *
        generalize cl 8 200 k = x2 at *
        generalize cl 200 296 k = x3 at *
        generalize cl 296 1288 k = x4 at *
        generalize cl 1288 2824 k = x5 at *
        generalize cl (1288 + 16 * q) (1304 + 16 * q) k = x6 at *
        go_wp2_with fail
        refine Calls.mono (Hid.out HC) ?_
        rintro e w' ⟨rfl, rfl⟩
        go_wp2_with fail
        refine Calls.mono (Hid.out (HO _)) ?_
        rintro e w' ⟨rfl, rfl⟩
        rw [Hid.out HB]
        go_wp2
        go_roundw
        case rel =>
          obtain ⟨f0, f1, f2, f3, f4, f5, f6⟩ := Hid.out F
          exact ⟨k + 1, by omega, by omega, rfl, by rw [f6], by rw [f0, f1, f2, f3, f4, f5]⟩
        case measure => simp [intOf]; omega
      · have HB : Hid (openB k = true) := by show _ = _; unfold openB; rw [(ki_card h h').1]; rfl
        rw [(ki_card h h').1] at HC
        have f1 : cl 0 8 (k + 1) = cl 0 8 k := cl_out (by omega) (by omega)
        have f2 : cl 8 200 (k + 1) = cl 8 200 k + 1 := cl_in (by omega) (by omega)
        have f3 : cl 200 296 (k + 1) = cl 200 296 k := cl_out (by omega) (by omega)
        have f4 : cl 296 1288 (k + 1) = cl 296 1288 k := cl_out (by omega) (by omega)
        have f5 : cl 1288 2824 (k + 1) = cl 1288 2824 k := cl_out (by omega) (by omega)
        have f0 : cn (k + 1) = cn k := by unfold cn; rw [cl_out (by omega) (by omega), cl_out (by omega) (by omega)]
        have f6 : cl (1288 + 16 * q) (1304 + 16 * q) (k + 1) = cl (1288 + 16 * q) (1304 + 16 * q) k := cl_out (by omega) (by omega)
        have F : Hid (cn (k + 1) = _ ∧ cl 0 8 (k + 1) = _ ∧ cl 8 200 (k + 1) = _ ∧ cl 200 296 (k + 1) = _ ∧ cl 296 1288 (k + 1) = _ ∧ cl 1288 2824 (k + 1) = _ ∧ cl (1288 + 16 * q) (1304 + 16 * q) (k + 1) = _) := ⟨f0, f1, f2, f3, f4, f5, f6⟩
        clear f0 f1 f2 f3 f4 f5 f6
        have b0 : 0 ≤ cn k ∧ cn k ≤ 8 := by have x1 := cl_bd (lo := -2) (hi := 0) (k := k) (by omega); have x2 := cl_bd (lo := 2824) (hi := 2830) (k := k) (by omega); unfold cn; omega
        have b1 := cl_bd (lo := 0) (hi := 8) (k := k) (by omega)
        have b2 := cl_bd (lo := 8) (hi := 200) (k := k) (by omega)
        have b3 := cl_bd (lo := 200) (hi := 296) (k := k) (by omega)
        have b4 := cl_bd (lo := 296) (hi := 1288) (k := k) (by omega)
        have b5 := cl_bd (lo := 1288) (hi := 2824) (k := k) (by omega)
        have b6 := cl_bd (lo := 1288 + 16 * q) (hi := 1304 + 16 * q) (k := k) (by omega)
        generalize cn k = x0 at *
        generalize cl 0 8 k = x1 at *
        generalize cl 8 200 k = x2 at *
        generalize cl 200 296 k = x3 at *
        generalize cl 296 1288 k = x4 at *
        generalize cl 1288 2824 k = x5 at *
        generalize cl (1288 + 16 * q) (1304 + 16 * q) k = x6 at *
        go_wp2_with fail
        refine Calls.mono (Hid.out HC) ?_
        rintro e w' ⟨rfl, rfl⟩
        go_wp2_with fail
        refine Calls.mono (Hid.out (HO _)) ?_
        rintro e w' ⟨rfl, rfl⟩
        rw [Hid.out HB]
        go_wp2
        go_roundw
        case rel =>
          obtain ⟨f0, f1, f2, f3, f4, f5, f6⟩ := Hid.out F
          exact ⟨k + 1, by omega, by omega, rfl, by rw [f6], by rw [f0, f1, f2, f3, f4, f5]⟩
        case measure => simp [intOf]; omega
      · have HB : Hid (openB k = true) := by show _ = _; unfold openB; rw [(ki_owner h h').1]; rfl
        rw [(ki_owner h h').1] at HC
        have f1 : cl 0 8 (k + 1) = cl 0 8 k := cl_out (by omega) (by omega)
        have f2 : cl 8 200 (k + 1) = cl 8 200 k := cl_out (by omega) (by omega)
        have f3 : cl 200 296 (k + 1) = cl 200 296 k + 1 := cl_in (by omega) (by omega)
        have f4 : cl 296 1288 (k + 1) = cl 296 1288 k := cl_out (by omega) (by omega)
        have f5 : cl 1288 2824 (k + 1) = cl 1288 2824 k := cl_out (by omega) (by omega)
        have f0 : cn (k + 1) = cn k := by unfold cn; rw [cl_out (by omega) (by omega), cl_out (by omega) (by omega)]
        have f6 : cl (1288 + 16 * q) (1304 + 16 * q) (k + 1) = cl (1288 + 16 * q) (1304 + 16 * q) k := cl_out (by omega) (by omega)
        have F : Hid (cn (k + 1) = _ ∧ cl 0 8 (k + 1) = _ ∧ cl 8 200 (k + 1) = _ ∧ cl 200 296 (k + 1) = _ ∧ cl 296 1288 (k + 1) = _ ∧ cl 1288 2824 (k + 1) = _ ∧ cl (1288 + 16 * q) (1304 + 16 * q) (k + 1) = _) := ⟨f0, f1, f2, f3, f4, f5, f6⟩
        clear f0 f1 f2 f3 f4 f5 f6
        have b0 : 0 ≤ cn k ∧ cn k ≤ 8 := by have x1 := cl_bd (lo := -2) (hi := 0) (k := k) (by omega); have x2 := cl_bd (lo := 2824) (hi := 2830) (k := k) (by omega); unfold cn; omega
        have b1 := cl_bd (lo := 0) (hi := 8) (k := k) (by omega)
        have b2 := cl_bd (lo := 8) (hi := 200) (k := k) (by omega)
        have b3 := cl_bd (lo := 200) (hi := 296) (k := k) (by omega)
        have b4 := cl_bd (lo := 296) (hi := 1288) (k := k) (by omega)
        have b5 := cl_bd (lo := 1288) (hi := 2824) (k := k) (by omega)
        have b6 := cl_bd (lo := 1288 + 16 * q) (hi := 1304 + 16 * q) (k := k) (by omega)
        generalize cn k = x0 at *
        generalize cl 0 8 k = x1 at *
        generalize cl 8 200 k = x2 at *
        generalize cl 200 296 k = x3 at *
        generalize cl 296 1288 k = x4 at *
        generalize cl 1288 2824 k = x5 at *
        generalize cl (1288 + 16 * q) (1304 + 16 * q) k = x6 at *
        go_wp2_with fail
        refine Calls.mono (Hid.out HC) ?_
        rintro e w' ⟨rfl, rfl⟩
        go_wp2_with fail
        refine Calls.mono (Hid.out (HO _)) ?_
        rintro e w' ⟨rfl, rfl⟩
        rw [Hid.out HB]
        go_wp2
        go_roundw
        case rel =>
          obtain ⟨f0, f1, f2, f3, f4, f5, f6⟩ := Hid.out F
          exact ⟨k + 1, by omega, by omega, rfl, by rw [f6], by rw [f0, f1, f2, f3, f4, f5]⟩
        case measure => simp [intOf]; omega
      · have HB : Hid (openB k = false) := by show _ = _; unfold openB; rw [(ki_log h h').1]; rfl
        rw [(ki_log h h').1] at HC
        have f1 : cl 0 8 (k + 1) = cl 0 8 k := cl_out (by omega) (by omega)
        have f2 : cl 8 200 (k + 1) = cl 8 200 k := cl_out (by omega) (by omega)
        have f3 : cl 200 296 (k + 1) = cl 200 296 k := cl_out (by omega) (by omega)
        have f4 : cl 296 1288 (k + 1) = cl 296 1288 k + 1 := cl_in (by omega) (by omega)
        have f5 : cl 1288 2824 (k + 1) = cl 1288 2824 k := cl_out (by omega) (by omega)
        have f0 : cn (k + 1) = cn k := by unfold cn; rw [cl_out (by omega) (by omega), cl_out (by omega) (by omega)]
        have f6 : cl (1288 + 16 * q) (1304 + 16 * q) (k + 1) = cl (1288 + 16 * q) (1304 + 16 * q) k := cl_out (by omega) (by omega)
        have F : Hid (cn (k + 1) = _ ∧ cl 0 8 (k + 1) = _ ∧ cl 8 200 (k + 1) = _ ∧ cl 200 296 (k + 1) = _ ∧ cl 296 1288 (k + 1) = _ ∧ cl 1288 2824 (k + 1) = _ ∧ cl (1288 + 16 * q) (1304 + 16 * q) (k + 1) = _) := ⟨f0, f1, f2, f3, f4, f5, f6⟩
        clear f0 f1 f2 f3 f4 f5 f6
        have b0 : 0 ≤ cn k ∧ cn k ≤ 8 := by have x1 := cl_bd (lo := -2) (hi := 0) (k := k) (by omega); have x2 := cl_bd (lo := 2824) (hi := 2830) (k := k) (by omega); unfold cn; omega
        have b1 := cl_bd (lo := 0) (hi := 8) (k := k) (by omega)
        have b2 := cl_bd (lo := 8) (hi := 200) (k := k) (by omega)
        have b3 := cl_bd (lo := 200) (hi := 296) (k := k) (by omega)
        have b4 := cl_bd (lo := 296) (hi := 1288) (k := k) (by omega)
        have b5 := cl_bd (lo := 1288) (hi := 2824) (k := k) (by omega)
        have b6 := cl_bd (lo := 1288 + 16 * q) (hi := 1304 + 16 * q) (k := k) (by omega)
        generalize cn k = x0 at *
        generalize cl 0 8 k = x1 at *
        generalize cl 8 200 k = x2 at *
        generalize cl 200 296 k = x3 at *
        generalize cl 296 1288 k = x4 at *
        generalize cl 1288 2824 k = x5 at *
        generalize cl (1288 + 16 * q) (1304 + 16 * q) k = x6 at *
        go_wp2_with fail
        refine Calls.mono (Hid.out HC) ?_
        rintro e w' ⟨rfl, rfl⟩
        go_wp2_with fail
        refine Calls.mono (Hid.out (HO _)) ?_
        rintro e w' ⟨rfl, rfl⟩
        rw [Hid.out HB]
        go_wp2
        go_roundw
        case rel =>
          obtain ⟨f0, f1, f2, f3, f4, f5, f6⟩ := Hid.out F
          exact ⟨k + 1, by omega, by omega, rfl, by rw [f6], by rw [f0, f1, f2, f3, f4, f5]⟩
        case measure => simp [intOf]; omega
      · by_cases hw : 1288 + 16 * q ≤ k ∧ k < 1304 + 16 * q
        · have HB : Hid (openB k = true) := by show _ = _; unfold openB; rw [(ki_data h h').1]; rfl
          rw [(ki_data h h').1] at HC
          have f1 : cl 0 8 (k + 1) = cl 0 8 k := cl_out (by omega) (by omega)
          have f2 : cl 8 200 (k + 1) = cl 8 200 k := cl_out (by omega) (by omega)
          have f3 : cl 200 296 (k + 1) = cl 200 296 k := cl_out (by omega) (by omega)
          have f4 : cl 296 1288 (k + 1) = cl 296 1288 k := cl_out (by omega) (by omega)
          have f5 : cl 1288 2824 (k + 1) = cl 1288 2824 k + 1 := cl_in (by omega) (by omega)
          have f0 : cn (k + 1) = cn k := by unfold cn; rw [cl_out (by omega) (by omega), cl_out (by omega) (by omega)]
          have f6 : cl (1288 + 16 * q) (1304 + 16 * q) (k + 1) = cl (1288 + 16 * q) (1304 + 16 * q) k + 1 := cl_in (by omega) (by omega)
          have F : Hid (cn (k + 1) = _ ∧ cl 0 8 (k + 1) = _ ∧ cl 8 200 (k + 1) = _ ∧ cl 200 296 (k + 1) = _ ∧ cl 296 1288 (k + 1) = _ ∧ cl 1288 2824 (k + 1) = _ ∧ cl (1288 + 16 * q) (1304 + 16 * q) (k + 1) = _) := ⟨f0, f1, f2, f3, f4, f5, f6⟩
          clear f0 f1 f2 f3 f4 f5 f6
          have b0 : 0 ≤ cn k ∧ cn k ≤ 8 := by have x1 := cl_bd (lo := -2) (hi := 0) (k := k) (by omega); have x2 := cl_bd (lo := 2824) (hi := 2830) (k := k) (by omega); unfold cn; omega
          have b1 := cl_bd (lo := 0) (hi := 8) (k := k) (by omega)
          have b2 := cl_bd (lo := 8) (hi := 200) (k := k) (by omega)
          have b3 := cl_bd (lo := 200) (hi := 296) (k := k) (by omega)
          have b4 := cl_bd (lo := 296) (hi := 1288) (k := k) (by omega)
          have b5 := cl_bd (lo := 1288) (hi := 2824) (k := k) (by omega)
          have b6 := cl_bd (lo := 1288 + 16 * q) (hi := 1304 + 16 * q) (k := k) (by omega)
          generalize cn k = x0 at *
          generalize cl 0 8 k = x1 at *
          generalize cl 8 200 k = x2 at *
          generalize cl 200 296 k = x3 at *
          generalize cl 296 1288 k = x4 at *
          generalize cl 1288 2824 k = x5 at *
          generalize cl (1288 + 16 * q) (1304 + 16 * q) k = x6 at *
          have HN : Hid (numI k = q) := by show _ = _; rw [(ki_data h h').2]; omega
          rw [Hid.out HN] at HC
          go_wp2_with fail
          refine Calls.mono (Hid.out HC) ?_
          rintro e w' ⟨rfl, rfl⟩
          go_wp2_with fail
          refine Calls.mono (Hid.out (HO _)) ?_
          rintro e w' ⟨rfl, rfl⟩
          rw [Hid.out HB]
          go_wp2
          go_roundw
          case rel =>
            obtain ⟨f0, f1, f2, f3, f4, f5, f6⟩ := Hid.out F
            exact ⟨k + 1, by omega, by omega, rfl, by rw [f6], by rw [f0, f1, f2, f3, f4, f5]⟩
          case measure => simp [intOf]; omega
        · have HB : Hid (openB k = true) := by show _ = _; unfold openB; rw [(ki_data h h').1]; rfl
          rw [(ki_data h h').1] at HC
          have f1 : cl 0 8 (k + 1) = cl 0 8 k := cl_out (by omega) (by omega)
          have f2 : cl 8 200 (k + 1) = cl 8 200 k := cl_out (by omega) (by omega)
          have f3 : cl 200 296 (k + 1) = cl 200 296 k := cl_out (by omega) (by omega)
          have f4 : cl 296 1288 (k + 1) = cl 296 1288 k := cl_out (by omega) (by omega)
          have f5 : cl 1288 2824 (k + 1) = cl 1288 2824 k + 1 := cl_in (by omega) (by omega)
          have f0 : cn (k + 1) = cn k := by unfold cn; rw [cl_out (by omega) (by omega), cl_out (by omega) (by omega)]
          have f6 : cl (1288 + 16 * q) (1304 + 16 * q) (k + 1) = cl (1288 + 16 * q) (1304 + 16 * q) k := cl_out (by omega) (by omega)
          have F : Hid (cn (k + 1) = _ ∧ cl 0 8 (k + 1) = _ ∧ cl 8 200 (k + 1) = _ ∧ cl 200 296 (k + 1) = _ ∧ cl 296 1288 (k + 1) = _ ∧ cl 1288 2824 (k + 1) = _ ∧ cl (1288 + 16 * q) (1304 + 16 * q) (k + 1) = _) := ⟨f0, f1, f2, f3, f4, f5, f6⟩
          clear f0 f1 f2 f3 f4 f5 f6
          have b0 : 0 ≤ cn k ∧ cn k ≤ 8 := by have x1 := cl_bd (lo := -2) (hi := 0) (k := k) (by omega); have x2 := cl_bd (lo := 2824) (hi := 2830) (k := k) (by omega); unfold cn; omega
          have b1 := cl_bd (lo := 0) (hi := 8) (k := k) (by omega)
          have b2 := cl_bd (lo := 8) (hi := 200) (k := k) (by omega)
          have b3 := cl_bd (lo := 200) (hi := 296) (k := k) (by omega)
          have b4 := cl_bd (lo := 296) (hi := 1288) (k := k) (by omega)
          have b5 := cl_bd (lo := 1288) (hi := 2824) (k := k) (by omega)
          have b6 := cl_bd (lo := 1288 + 16 * q) (hi := 1304 + 16 * q) (k := k) (by omega)
          generalize cn k = x0 at *
          generalize cl 0 8 k = x1 at *
          generalize cl 8 200 k = x2 at *
          generalize cl 200 296 k = x3 at *
          generalize cl 296 1288 k = x4 at *
          generalize cl 1288 2824 k = x5 at *
          generalize cl (1288 + 16 * q) (1304 + 16 * q) k = x6 at *
          have HN : ¬ numI k = q := by rw [(ki_data h h').2]; omega
          have HN' : (numI k == q) = false := by simpa using HN
          generalize numI k = nn at *
          go_wp2_with fail
          refine Calls.mono (Hid.out HC) ?_
          rintro e w' ⟨rfl, rfl⟩
          go_wp2_with fail
          refine Calls.mono (Hid.out (HO _)) ?_
          rintro e w' ⟨rfl, rfl⟩
          rw [Hid.out HB]
          go_wp2
          go_roundw
          case rel =>
            obtain ⟨f0, f1, f2, f3, f4, f5, f6⟩ := Hid.out F
            exact ⟨k + 1, by omega, by omega, rfl, by rw [f6], by rw [f0, f1, f2, f3, f4, f5]⟩
          case measure => simp [intOf]; omega
    · obtain rfl : k = 2830 := by omega
      have e1 : cl (1288 + 16 * q) (1304 + 16 * q) 2830 = 16 := by unfold cl; rw [if_neg (by omega), if_neg (by omega)]; omega
      have e2 : cn 2830 = 8 := by decide
      have e3 : cl 0 8 2830 = 8 := by decide
      have e4 : cl 8 200 2830 = 192 := by decide
      have e5 : cl 200 296 2830 = 96 := by decide
      have e6 : cl 296 1288 2830 = 992 := by decide
      have e7 : cl 1288 2824 2830 = 1536 := by decide
      rw [e1, e2, e3, e4, e5, e6, e7]
      have heq := same_counts
      go_wp2
      go_ret
      exact ⟨rfl, hb.alloc hb.size _⟩

set_option maxRecDepth 100000 in
theorem lifted (os : Os) (started : os.Started) (H : Type) (enc : TypeId × Value → H) :
    ReturnsInHanded {} Try.checked os 6 .any (Rows.planCountsSpec.pre6 enc Try.prog Try.f6 Rows.planCountsRow.domain false) (Rows.planCountsSpec.post enc Try.prog Try.f6 false true false false) := by
  refine returnsInHanded_of_change (C := Try.checked) own started (by kernel_rfl) Try.func6
    (ChangeSpec.witness6 (enc := enc) (C := Try.checked) false ⟨#[], #[.int .i64 0], []⟩ 8 (by kernel_rfl) (by kernel_rfl) (by kernel_rfl) (by kernel_rfl)) ?_
  intro W base args ds gs before hval0 hW hcnd _
  have hval : ∀ (j : Nat) t v, Try.f6.params[j]? = some t → args[j]? = some v → Value.okWide Try.prog W .any base t v := hval0
  have hW' := hW
  obtain ⟨p, q, hA0, hV, rfl, hfz, hnd⟩ := hW
  have hA : DataW.TrodAll enc Try.prog W 0 (fun _ => true) true Try.f6.params.toList args.toList ds p := hA0
  rw [Try.params6] at hA hval
  obtain ⟨v0, vs0, d0, ds0, p0, q0, hargs, rfl, rfl, h0, r0⟩ := trodAll_cons hA
  obtain ⟨rfl, rfl, rfl⟩ := trodAll_nil r0
  obtain rfl : args = #[v0] := by cases args; simp_all
  obtain ⟨rfl, rfl⟩ := trodVars_none hV
  obtain ⟨a0, rfl, rfl, rfl, w0⟩ := open_int Try.underlying3 (hval 0 3 v0 rfl rfl) h0
  clear hA0 hval0
  refine (walk a0 W (bounds_i64 w0)).mono fun e W' ⟨he, bel⟩ => ?_
  subst he
  exact ⟨_, rfl, _, _, _, [], _, [], hW', trodAll_mk1 (shut_bool Try.underlying4 _), (trodAll_cons_mk (shut_int Try.underlying3 w0) trodAll_mk0), rfl, bel.frame _, fun h => by cases h⟩

theorem over : Rows.planCountsRow.holds Try.pinned (OpenSpec.ofChange Rows.planCountsSpec) :=
  OpenClaim.holds_of_wide 6 Try.f6 rfl rfl rfl rfl rfl rfl rfl ⟨rfl, rfl, rfl, rfl, rfl⟩ rfl rfl rfl rfl rfl (by kernel_rfl) Try.func6 (by kernel_rfl)
    (of_decide_eq_true (by kernel_rfl)) (by unfold Func.isWrapper; first | (rw [if_pos (by decide +kernel)]; kernel_rfl) | (rw [if_neg (by decide +kernel)]; exact ⟨rfl, rfl⟩))
    (fun os started H enc _ => lifted os started H enc)

theorem proved : Rows.PlanCountsSaid := over
#print axioms proved
end Go.Proofs.Ytmpnofdgfminlaa.planCounts
