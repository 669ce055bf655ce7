/- Contracts of the fresh cards (the program's and the document's), and that the statements' head answers true. -/
import Derived.Test.YtechglhmdofcbaaRead
namespace Go.Proofs.Ytechglhmdofcbaa
open Go.RowKit

theorem none_eq (v : Int) (w : World) :
    Calls Try.prog 18 #[.int .u64 v] w fun e w' => e = .returned (.agg #[.int .i64 0, .int .i64 0, .int .i64 0, .int .u64 v, .int .i64 (-1), .int .i64 (-1), .int .i64 (-1), .int .i64 (-1), .int .i64 (-1), .int .i64 (-1)]) ∧ w' = (w.alloc (.cells #[.int .i64 0, .int .i64 0, .int .i64 0, .int .u64 v, .int .i64 (-1), .int .i64 (-1), .int .i64 (-1), .int .i64 (-1), .int .i64 (-1), .int .i64 (-1)] 25)).alloc (.cells #[.int .i64 0, .int .i64 0, .int .i64 0, .int .u64 v, .int .i64 (-1), .int .i64 (-1), .int .i64 (-1), .int .i64 (-1), .int .i64 (-1), .int .i64 (-1)] 25) := by
  go_enter Try.func18, Try.ntmps18
  go_wp2
  refine wp_loop_rounds 6 ?_
  rw [rounds_succ]
  go_wp2
  rw [rounds_succ]
  go_wp2
  rw [rounds_succ]
  go_wp2
  rw [rounds_succ]
  go_wp2
  rw [rounds_succ]
  go_wp2
  rw [rounds_succ]
  go_wp2
  refine bodyPost_ret (v := .agg #[_, _, _, _, _, _, _, _, _, _]) (by simp [results, Try.results18, go_sem]) rfl ⟨rfl, rfl⟩
theorem refNone_eq (v : Int) (w : World) :
    Calls Try.prog 19 #[.int .u64 v] w fun e w' => e = .returned (.agg #[.int .i64 0, .int .i64 0, .int .i64 0, .int .u64 v, .int .i64 (-1), .int .i64 (-1), .int .i64 (-1), .int .i64 (-1), .int .i64 (-1), .int .i64 (-1)]) ∧ w' = w.alloc (.cells #[.int .i64 0, .int .i64 0, .int .i64 0, .int .u64 v, .int .i64 (-1), .int .i64 (-1), .int .i64 (-1), .int .i64 (-1), .int .i64 (-1), .int .i64 (-1)] 25) := by
  go_enter Try.func19, Try.ntmps19
  go_wp2
  refine bodyPost_ret (v := .agg #[_, _, _, _, _, _, _, _, _, _]) (by simp [results, Try.results19, go_sem]) rfl ⟨rfl, rfl⟩

set_option maxHeartbeats 1000000 in
theorem fresh_yes (k v : Int) (w : World) (h : k = 1 ∨ k = 2 ∨ k = 3) :
    Calls Try.prog 16 #[.int .i64 k, .int .u64 v] w fun e w' => e = .returned (.tuple #[.agg #[.int .i64 k, .int .i64 1, .int .i64 0, .int .u64 v, .int .i64 (-1), .int .i64 (-1), .int .i64 (-1), .int .i64 (-1), .int .i64 (-1), .int .i64 (-1)], .int .i64 0]) ∧ Below w.heap.size w w' := by
  have HK : Hid (k = 1 ∨ k = 2 ∨ k = 3) := h
  clear h
  go_enter Try.func16, Try.ntmps16
  go_wp2_with fail
  refine (isFile_yes k _ HK.out).mono ?_
  rintro e w' ⟨rfl, rfl⟩
  go_wp2_with fail
  refine (none_eq v _).mono ?_
  rintro e w1 ⟨rfl, rfl⟩
  go_wp2
  refine bodyPost_ret (v := .tuple #[.agg #[_, _, _, _, _, _, _, _, _, _], _]) (by simp [results, Try.results16, go_sem]) rfl ⟨rfl, ?_⟩
  exact (((((Below.refl _ _).alloc (Nat.le_refl _) _).alloc (by simp <;> omega) _).alloc (by simp <;> omega) _).alloc (by simp <;> omega) _)
set_option maxHeartbeats 1000000 in
theorem fresh_no (k v : Int) (w : World) (h : ¬ (k = 1 ∨ k = 2 ∨ k = 3)) :
    Calls Try.prog 16 #[.int .i64 k, .int .u64 v] w fun e w' => e = .returned (.tuple #[.agg #[.int .i64 0, .int .i64 0, .int .i64 0, .int .u64 0, .int .i64 0, .int .i64 0, .int .i64 0, .int .i64 0, .int .i64 0, .int .i64 0], .int .i64 1]) ∧ Below w.heap.size w w' := by
  have HK : Hid (¬ (k = 1 ∨ k = 2 ∨ k = 3)) := h
  clear h
  go_enter Try.func16, Try.ntmps16
  go_wp2_with fail
  refine (isFile_no k _ HK.out).mono ?_
  rintro e w' ⟨rfl, rfl⟩
  go_wp2
  refine bodyPost_ret (v := .tuple #[.agg #[_, _, _, _, _, _, _, _, _, _], _]) (by simp [results, Try.results16, go_sem]) rfl ⟨rfl, ?_⟩
  exact below_box0 _ _
set_option maxHeartbeats 1000000 in
theorem refFresh_yes (k v : Int) (w : World) (h : k = 1 ∨ k = 2 ∨ k = 3) :
    Calls Try.prog 17 #[.int .i64 k, .int .u64 v] w fun e w' => e = .returned (.tuple #[.agg #[.int .i64 k, .int .i64 1, .int .i64 0, .int .u64 v, .int .i64 (-1), .int .i64 (-1), .int .i64 (-1), .int .i64 (-1), .int .i64 (-1), .int .i64 (-1)], .int .i64 0]) ∧ Below w.heap.size w w' := by
  have HK : Hid (k = 1 ∨ k = 2 ∨ k = 3) := h
  have h1 : ¬ k < 1 := by omega
  have h2 : ¬ k > 3 := by omega
  clear h
  go_enter Try.func17, Try.ntmps17
  go_wp2_with fail
  refine (refNone_eq v _).mono ?_
  rintro e w1 ⟨rfl, rfl⟩
  go_wp2
  refine bodyPost_ret (v := .tuple #[.agg #[_, _, _, _, _, _, _, _, _, _], _]) (by simp [results, Try.results17, go_sem]) rfl ⟨rfl, ?_⟩
  exact ((((Below.refl _ _).alloc (Nat.le_refl _) _).alloc (by simp <;> omega) _).alloc (by simp <;> omega) _)
set_option maxHeartbeats 1000000 in
theorem refFresh_no (k v : Int) (w : World) (h : ¬ (k = 1 ∨ k = 2 ∨ k = 3)) :
    Calls Try.prog 17 #[.int .i64 k, .int .u64 v] w fun e w' => e = .returned (.tuple #[.agg #[.int .i64 0, .int .i64 0, .int .i64 0, .int .u64 0, .int .i64 0, .int .i64 0, .int .i64 0, .int .i64 0, .int .i64 0, .int .i64 0], .int .i64 1]) ∧ Below w.heap.size w w' := by
  by_cases h1 : k < 1
  · clear h
    go_enter Try.func17, Try.ntmps17
    go_wp2
    refine bodyPost_ret (v := .tuple #[.agg #[_, _, _, _, _, _, _, _, _, _], _]) (by simp [results, Try.results17, go_sem]) rfl ⟨rfl, ?_⟩
    exact below_box0 _ _
  · have h2 : k > 3 := by omega
    clear h
    go_enter Try.func17, Try.ntmps17
    go_wp2
    refine bodyPost_ret (v := .tuple #[.agg #[_, _, _, _, _, _, _, _, _, _], _]) (by simp [results, Try.results17, go_sem]) rfl ⟨rfl, ?_⟩
    exact below_box0 _ _

end Go.Proofs.Ytechglhmdofcbaa
