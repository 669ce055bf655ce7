/- Contracts of the document's own small functions on cards. -/
import Derived.Test.YtdjnkibnnjobpaaBig
namespace Go.Proofs.Ytdjnkibnnjobpaa.Cd
open Go.RowKit

theorem refNone_any (v : Int) (w : World) :
    Calls Try.prog 21 #[.int .u64 v] w fun e w' => e = .returned (.agg #[.int .i64 0, .int .i64 0, .int .i64 0, .int .u64 v, .int .i64 (-1), .int .i64 (-1), .int .i64 (-1), .int .i64 (-1), .int .i64 (-1), .int .i64 (-1)]) ∧ Below w.heap.size w w' := by
  go_enter Try.func21, Try.ntmps21
  go_wp2
  refine bodyPost_ret (v := .agg #[_, _, _, _, _, _, _, _, _, _]) (by simp [results, Try.results21, go_sem]) rfl ⟨rfl, ?_⟩
  exact (Below.refl _ _).alloc (Nat.le_refl _) _

theorem block_any (n : Int) (w : World) : Calls Try.prog 22 #[.int .i64 n] w fun e w' => e = .returned (.bool (decide (-1 ≤ n ∧ n ≤ 95))) ∧ w' = w := by
  by_cases h1 : -1 ≤ n
  · by_cases h2 : n ≤ 95
    · have h3 : n < 96 := by omega
      rw [decide_eq_true ⟨h1, h2⟩]
      clear h2
      go_enter Try.func22, Try.ntmps22
      go_wp2
      go_ret
      exact ⟨rfl, rfl⟩
    · have h3 : ¬ n < 96 := by omega
      rw [decide_eq_false (fun h => h2 h.2)]
      clear h2
      go_enter Try.func22, Try.ntmps22
      go_wp2
      go_ret
      exact ⟨rfl, rfl⟩
  · rw [decide_eq_false (fun h => h1 h.1)]
    go_enter Try.func22, Try.ntmps22
    go_wp2
    go_ret
    exact ⟨rfl, rfl⟩
theorem block_yes (n : Int) (w : World) (h1 : -1 ≤ n ∧ n ≤ 95) : Calls Try.prog 22 #[.int .i64 n] w fun e w' => e = .returned (.bool true) ∧ w' = w := by
  have h := block_any n w
  rw [decide_eq_true h1] at h
  exact h
theorem block_no (n : Int) (w : World) (h1 : ¬ (-1 ≤ n ∧ n ≤ 95)) : Calls Try.prog 22 #[.int .i64 n] w fun e w' => e = .returned (.bool false) ∧ w' = w := by
  have h := block_any n w
  rw [decide_eq_false h1] at h
  exact h


end Go.Proofs.Ytdjnkibnnjobpaa.Cd
