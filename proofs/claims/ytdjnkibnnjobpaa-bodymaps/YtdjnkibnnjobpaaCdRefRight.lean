/- Contracts of the document's own Right: which cards may be. -/
import Derived.Test.YtdjnkibnnjobpaaBig
import Derived.Test.YtdjnkibnnjobpaaCdRefBase
import Derived.Deep.RegionWith
namespace Go.Proofs.Ytdjnkibnnjobpaa.Cd
open Go.RowKit

set_option maxHeartbeats 1000000 in
theorem refRight_free (l s v d0 d1 d2 d3 d4 m : Int) (w : World) (b : Bool) (hb : No 0 l s d0 d1 d2 d3 d4 m ↔ b = true) :
    Calls Try.prog 6 #[.agg #[.int .i64 0, .int .i64 l, .int .i64 s, .int .u64 v, .int .i64 d0, .int .i64 d1, .int .i64 d2, .int .i64 d3, .int .i64 d4, .int .i64 m]] w fun e w' => e = .returned (.bool b) ∧ Below w.heap.size w w' := by
  have he := no_eq 0 l s v d0 d1 d2 d3 d4 m b hb
  clear hb
  go_enter Try.func6, Try.ntmps6
  go_wp2_with fail
  obtain ⟨W, hW, HS, HE, HC⟩ := new_card w 0 l s v d0 d1 d2 d3 d4 m
  rw [hW]
  clear hW
  have bel : Below W.heap.size W W := Below.refl _ _
  obtain ⟨c0, c1, c2, c3, c4, c5, c6, c7, c8, c9⟩ := HC.out W bel
  go_region_held3 (fun v' => v'.cell? ⟨w.heap.size, 0, none⟩ = some (.int .i64 0) ∧ v'.cell? ⟨w.heap.size, 1, none⟩ = some (.int .i64 l) ∧ v'.cell? ⟨w.heap.size, 2, none⟩ = some (.int .i64 s) ∧ v'.cell? ⟨w.heap.size, 3, none⟩ = some (.int .u64 v) ∧ v'.cell? ⟨w.heap.size, 4, none⟩ = some (.int .i64 d0) ∧ v'.cell? ⟨w.heap.size, 5, none⟩ = some (.int .i64 d1) ∧ v'.cell? ⟨w.heap.size, 6, none⟩ = some (.int .i64 d2) ∧ v'.cell? ⟨w.heap.size, 7, none⟩ = some (.int .i64 d3) ∧ v'.cell? ⟨w.heap.size, 8, none⟩ = some (.int .i64 d4) ∧ v'.cell? ⟨w.heap.size, 9, none⟩ = some (.int .i64 m)) (first | exact HC.out _ bel | exact HC.out _ bel.drew)
    (first
      | (go_at_call 21; refine Calls.mono (refNone_any v _) ?_; rintro e v1 ⟨rfl, hb⟩; have bel := bel.drew.trans (hb.mono bel.size); clear hb))
  all_goals
    have BF : Hid (Below w.heap.size w _) := HE.out _ bel
    go_wp2
    go_ret
    exact ⟨rfl, BF.out⟩
set_option maxHeartbeats 1000000 in
theorem refRight_b0 (k l s v d0 d1 d2 d3 d4 m : Int) (w : World) (hk : ¬ k = 0)  (h0 : ¬ (-1 ≤ d0 ∧ d0 ≤ 95)) :
    Calls Try.prog 6 #[.agg #[.int .i64 k, .int .i64 l, .int .i64 s, .int .u64 v, .int .i64 d0, .int .i64 d1, .int .i64 d2, .int .i64 d3, .int .i64 d4, .int .i64 m]] w fun e w' => e = .returned (.bool false) ∧ Below w.heap.size w w' := by
  have hk' : (k == 0) = false := by rw [beq_eq_false_iff_ne]; exact hk
  clear hk
  have K0 : Hid (¬ (-1 ≤ d0 ∧ d0 ≤ 95)) := h0
  clear h0
  go_enter Try.func6, Try.ntmps6
  go_wp2_with fail
  refine wp_loop_rounds 6 ?_
  rw [rounds_succ]
  go_wp2_with (go_at_call 22; refine (block_no _ _ K0.out).mono ?_; rintro e w' ⟨rfl, rfl⟩)
  go_ret
  exact ⟨rfl, below_box0 _ _⟩
set_option maxHeartbeats 1000000 in
theorem refRight_b1 (k l s v d0 d1 d2 d3 d4 m : Int) (w : World) (hk : ¬ k = 0) (h0 : -1 ≤ d0 ∧ d0 ≤ 95) (h1 : ¬ (-1 ≤ d1 ∧ d1 ≤ 95)) :
    Calls Try.prog 6 #[.agg #[.int .i64 k, .int .i64 l, .int .i64 s, .int .u64 v, .int .i64 d0, .int .i64 d1, .int .i64 d2, .int .i64 d3, .int .i64 d4, .int .i64 m]] w fun e w' => e = .returned (.bool false) ∧ Below w.heap.size w w' := by
  have hk' : (k == 0) = false := by rw [beq_eq_false_iff_ne]; exact hk
  clear hk
  have K0 : Hid ((-1 ≤ d0 ∧ d0 ≤ 95)) := h0
  clear h0
  have K1 : Hid (¬ (-1 ≤ d1 ∧ d1 ≤ 95)) := h1
  clear h1
  go_enter Try.func6, Try.ntmps6
  go_wp2_with fail
  refine wp_loop_rounds 6 ?_
  rw [rounds_succ]
  go_wp2_with (go_at_call 22; refine (block_yes _ _ K0.out).mono ?_; rintro e w' ⟨rfl, rfl⟩)
  rw [rounds_succ]
  go_wp2_with (go_at_call 22; refine (block_no _ _ K1.out).mono ?_; rintro e w' ⟨rfl, rfl⟩)
  go_ret
  exact ⟨rfl, below_box0 _ _⟩
set_option maxHeartbeats 1000000 in
theorem refRight_b2 (k l s v d0 d1 d2 d3 d4 m : Int) (w : World) (hk : ¬ k = 0) (h0 : -1 ≤ d0 ∧ d0 ≤ 95) (h1 : -1 ≤ d1 ∧ d1 ≤ 95) (h2 : ¬ (-1 ≤ d2 ∧ d2 ≤ 95)) :
    Calls Try.prog 6 #[.agg #[.int .i64 k, .int .i64 l, .int .i64 s, .int .u64 v, .int .i64 d0, .int .i64 d1, .int .i64 d2, .int .i64 d3, .int .i64 d4, .int .i64 m]] w fun e w' => e = .returned (.bool false) ∧ Below w.heap.size w w' := by
  have hk' : (k == 0) = false := by rw [beq_eq_false_iff_ne]; exact hk
  clear hk
  have K0 : Hid ((-1 ≤ d0 ∧ d0 ≤ 95)) := h0
  clear h0
  have K1 : Hid ((-1 ≤ d1 ∧ d1 ≤ 95)) := h1
  clear h1
  have K2 : Hid (¬ (-1 ≤ d2 ∧ d2 ≤ 95)) := h2
  clear h2
  go_enter Try.func6, Try.ntmps6
  go_wp2_with fail
  refine wp_loop_rounds 6 ?_
  rw [rounds_succ]
  go_wp2_with (go_at_call 22; refine (block_yes _ _ K0.out).mono ?_; rintro e w' ⟨rfl, rfl⟩)
  rw [rounds_succ]
  go_wp2_with (go_at_call 22; refine (block_yes _ _ K1.out).mono ?_; rintro e w' ⟨rfl, rfl⟩)
  rw [rounds_succ]
  go_wp2_with (go_at_call 22; refine (block_no _ _ K2.out).mono ?_; rintro e w' ⟨rfl, rfl⟩)
  go_ret
  exact ⟨rfl, below_box0 _ _⟩
set_option maxHeartbeats 1000000 in
theorem refRight_b3 (k l s v d0 d1 d2 d3 d4 m : Int) (w : World) (hk : ¬ k = 0) (h0 : -1 ≤ d0 ∧ d0 ≤ 95) (h1 : -1 ≤ d1 ∧ d1 ≤ 95) (h2 : -1 ≤ d2 ∧ d2 ≤ 95) (h3 : ¬ (-1 ≤ d3 ∧ d3 ≤ 95)) :
    Calls Try.prog 6 #[.agg #[.int .i64 k, .int .i64 l, .int .i64 s, .int .u64 v, .int .i64 d0, .int .i64 d1, .int .i64 d2, .int .i64 d3, .int .i64 d4, .int .i64 m]] w fun e w' => e = .returned (.bool false) ∧ Below w.heap.size w w' := by
  have hk' : (k == 0) = false := by rw [beq_eq_false_iff_ne]; exact hk
  clear hk
  have K0 : Hid ((-1 ≤ d0 ∧ d0 ≤ 95)) := h0
  clear h0
  have K1 : Hid ((-1 ≤ d1 ∧ d1 ≤ 95)) := h1
  clear h1
  have K2 : Hid ((-1 ≤ d2 ∧ d2 ≤ 95)) := h2
  clear h2
  have K3 : Hid (¬ (-1 ≤ d3 ∧ d3 ≤ 95)) := h3
  clear h3
  go_enter Try.func6, Try.ntmps6
  go_wp2_with fail
  refine wp_loop_rounds 6 ?_
  rw [rounds_succ]
  go_wp2_with (go_at_call 22; refine (block_yes _ _ K0.out).mono ?_; rintro e w' ⟨rfl, rfl⟩)
  rw [rounds_succ]
  go_wp2_with (go_at_call 22; refine (block_yes _ _ K1.out).mono ?_; rintro e w' ⟨rfl, rfl⟩)
  rw [rounds_succ]
  go_wp2_with (go_at_call 22; refine (block_yes _ _ K2.out).mono ?_; rintro e w' ⟨rfl, rfl⟩)
  rw [rounds_succ]
  go_wp2_with (go_at_call 22; refine (block_no _ _ K3.out).mono ?_; rintro e w' ⟨rfl, rfl⟩)
  go_ret
  exact ⟨rfl, below_box0 _ _⟩
set_option maxHeartbeats 1000000 in
theorem refRight_b4 (k l s v d0 d1 d2 d3 d4 m : Int) (w : World) (hk : ¬ k = 0) (h0 : -1 ≤ d0 ∧ d0 ≤ 95) (h1 : -1 ≤ d1 ∧ d1 ≤ 95) (h2 : -1 ≤ d2 ∧ d2 ≤ 95) (h3 : -1 ≤ d3 ∧ d3 ≤ 95) (h4 : ¬ (-1 ≤ d4 ∧ d4 ≤ 95)) :
    Calls Try.prog 6 #[.agg #[.int .i64 k, .int .i64 l, .int .i64 s, .int .u64 v, .int .i64 d0, .int .i64 d1, .int .i64 d2, .int .i64 d3, .int .i64 d4, .int .i64 m]] w fun e w' => e = .returned (.bool false) ∧ Below w.heap.size w w' := by
  have hk' : (k == 0) = false := by rw [beq_eq_false_iff_ne]; exact hk
  clear hk
  have K0 : Hid ((-1 ≤ d0 ∧ d0 ≤ 95)) := h0
  clear h0
  have K1 : Hid ((-1 ≤ d1 ∧ d1 ≤ 95)) := h1
  clear h1
  have K2 : Hid ((-1 ≤ d2 ∧ d2 ≤ 95)) := h2
  clear h2
  have K3 : Hid ((-1 ≤ d3 ∧ d3 ≤ 95)) := h3
  clear h3
  have K4 : Hid (¬ (-1 ≤ d4 ∧ d4 ≤ 95)) := h4
  clear h4
  go_enter Try.func6, Try.ntmps6
  go_wp2_with fail
  refine wp_loop_rounds 6 ?_
  rw [rounds_succ]
  go_wp2_with (go_at_call 22; refine (block_yes _ _ K0.out).mono ?_; rintro e w' ⟨rfl, rfl⟩)
  rw [rounds_succ]
  go_wp2_with (go_at_call 22; refine (block_yes _ _ K1.out).mono ?_; rintro e w' ⟨rfl, rfl⟩)
  rw [rounds_succ]
  go_wp2_with (go_at_call 22; refine (block_yes _ _ K2.out).mono ?_; rintro e w' ⟨rfl, rfl⟩)
  rw [rounds_succ]
  go_wp2_with (go_at_call 22; refine (block_yes _ _ K3.out).mono ?_; rintro e w' ⟨rfl, rfl⟩)
  rw [rounds_succ]
  go_wp2_with (go_at_call 22; refine (block_no _ _ K4.out).mono ?_; rintro e w' ⟨rfl, rfl⟩)
  go_ret
  exact ⟨rfl, below_box0 _ _⟩
set_option maxHeartbeats 1000000 in
theorem refRight_c0 (k l s v d0 d1 d2 d3 d4 m : Int) (w : World) (hk : ¬ k = 0) (h0 : -1 ≤ d0 ∧ d0 ≤ 95) (h1 : -1 ≤ d1 ∧ d1 ≤ 95) (h2 : -1 ≤ d2 ∧ d2 ≤ 95) (h3 : -1 ≤ d3 ∧ d3 ≤ 95) (h4 : -1 ≤ d4 ∧ d4 ≤ 95)  (c0 : ¬ 1 ≤ k) :
    Calls Try.prog 6 #[.agg #[.int .i64 k, .int .i64 l, .int .i64 s, .int .u64 v, .int .i64 d0, .int .i64 d1, .int .i64 d2, .int .i64 d3, .int .i64 d4, .int .i64 m]] w fun e w' => e = .returned (.bool false) ∧ Below w.heap.size w w' := by
  have hk' : (k == 0) = false := by rw [beq_eq_false_iff_ne]; exact hk
  clear hk
  have K0 : Hid (-1 ≤ d0 ∧ d0 ≤ 95) := h0
  clear h0
  have K1 : Hid (-1 ≤ d1 ∧ d1 ≤ 95) := h1
  clear h1
  have K2 : Hid (-1 ≤ d2 ∧ d2 ≤ 95) := h2
  clear h2
  have K3 : Hid (-1 ≤ d3 ∧ d3 ≤ 95) := h3
  clear h3
  have K4 : Hid (-1 ≤ d4 ∧ d4 ≤ 95) := h4
  clear h4
  go_enter Try.func6, Try.ntmps6
  go_wp2_with fail
  refine wp_loop_rounds 6 ?_
  rw [rounds_succ]
  go_wp2_with (go_at_call 22; refine (block_yes _ _ K0.out).mono ?_; rintro e w' ⟨rfl, rfl⟩)
  rw [rounds_succ]
  go_wp2_with (go_at_call 22; refine (block_yes _ _ K1.out).mono ?_; rintro e w' ⟨rfl, rfl⟩)
  rw [rounds_succ]
  go_wp2_with (go_at_call 22; refine (block_yes _ _ K2.out).mono ?_; rintro e w' ⟨rfl, rfl⟩)
  rw [rounds_succ]
  go_wp2_with (go_at_call 22; refine (block_yes _ _ K3.out).mono ?_; rintro e w' ⟨rfl, rfl⟩)
  rw [rounds_succ]
  go_wp2_with (go_at_call 22; refine (block_yes _ _ K4.out).mono ?_; rintro e w' ⟨rfl, rfl⟩)
  rw [rounds_succ]
  go_wp2
  go_ret
  exact ⟨rfl, below_box0 _ _⟩
set_option maxHeartbeats 1000000 in
theorem refRight_c1 (k l s v d0 d1 d2 d3 d4 m : Int) (w : World) (hk : ¬ k = 0) (h0 : -1 ≤ d0 ∧ d0 ≤ 95) (h1 : -1 ≤ d1 ∧ d1 ≤ 95) (h2 : -1 ≤ d2 ∧ d2 ≤ 95) (h3 : -1 ≤ d3 ∧ d3 ≤ 95) (h4 : -1 ≤ d4 ∧ d4 ≤ 95) (c0 : 1 ≤ k) (c1 : ¬ k ≤ 3) :
    Calls Try.prog 6 #[.agg #[.int .i64 k, .int .i64 l, .int .i64 s, .int .u64 v, .int .i64 d0, .int .i64 d1, .int .i64 d2, .int .i64 d3, .int .i64 d4, .int .i64 m]] w fun e w' => e = .returned (.bool false) ∧ Below w.heap.size w w' := by
  have hk' : (k == 0) = false := by rw [beq_eq_false_iff_ne]; exact hk
  clear hk
  have K0 : Hid (-1 ≤ d0 ∧ d0 ≤ 95) := h0
  clear h0
  have K1 : Hid (-1 ≤ d1 ∧ d1 ≤ 95) := h1
  clear h1
  have K2 : Hid (-1 ≤ d2 ∧ d2 ≤ 95) := h2
  clear h2
  have K3 : Hid (-1 ≤ d3 ∧ d3 ≤ 95) := h3
  clear h3
  have K4 : Hid (-1 ≤ d4 ∧ d4 ≤ 95) := h4
  clear h4
  go_enter Try.func6, Try.ntmps6
  go_wp2_with fail
  refine wp_loop_rounds 6 ?_
  rw [rounds_succ]
  go_wp2_with (go_at_call 22; refine (block_yes _ _ K0.out).mono ?_; rintro e w' ⟨rfl, rfl⟩)
  rw [rounds_succ]
  go_wp2_with (go_at_call 22; refine (block_yes _ _ K1.out).mono ?_; rintro e w' ⟨rfl, rfl⟩)
  rw [rounds_succ]
  go_wp2_with (go_at_call 22; refine (block_yes _ _ K2.out).mono ?_; rintro e w' ⟨rfl, rfl⟩)
  rw [rounds_succ]
  go_wp2_with (go_at_call 22; refine (block_yes _ _ K3.out).mono ?_; rintro e w' ⟨rfl, rfl⟩)
  rw [rounds_succ]
  go_wp2_with (go_at_call 22; refine (block_yes _ _ K4.out).mono ?_; rintro e w' ⟨rfl, rfl⟩)
  rw [rounds_succ]
  go_wp2
  go_ret
  exact ⟨rfl, below_box0 _ _⟩
set_option maxHeartbeats 1000000 in
theorem refRight_c2 (k l s v d0 d1 d2 d3 d4 m : Int) (w : World) (hk : ¬ k = 0) (h0 : -1 ≤ d0 ∧ d0 ≤ 95) (h1 : -1 ≤ d1 ∧ d1 ≤ 95) (h2 : -1 ≤ d2 ∧ d2 ≤ 95) (h3 : -1 ≤ d3 ∧ d3 ≤ 95) (h4 : -1 ≤ d4 ∧ d4 ≤ 95) (c0 : 1 ≤ k) (c1 : k ≤ 3) (c2 : ¬ 0 ≤ l) :
    Calls Try.prog 6 #[.agg #[.int .i64 k, .int .i64 l, .int .i64 s, .int .u64 v, .int .i64 d0, .int .i64 d1, .int .i64 d2, .int .i64 d3, .int .i64 d4, .int .i64 m]] w fun e w' => e = .returned (.bool false) ∧ Below w.heap.size w w' := by
  have hk' : (k == 0) = false := by rw [beq_eq_false_iff_ne]; exact hk
  clear hk
  have K0 : Hid (-1 ≤ d0 ∧ d0 ≤ 95) := h0
  clear h0
  have K1 : Hid (-1 ≤ d1 ∧ d1 ≤ 95) := h1
  clear h1
  have K2 : Hid (-1 ≤ d2 ∧ d2 ≤ 95) := h2
  clear h2
  have K3 : Hid (-1 ≤ d3 ∧ d3 ≤ 95) := h3
  clear h3
  have K4 : Hid (-1 ≤ d4 ∧ d4 ≤ 95) := h4
  clear h4
  go_enter Try.func6, Try.ntmps6
  go_wp2_with fail
  refine wp_loop_rounds 6 ?_
  rw [rounds_succ]
  go_wp2_with (go_at_call 22; refine (block_yes _ _ K0.out).mono ?_; rintro e w' ⟨rfl, rfl⟩)
  rw [rounds_succ]
  go_wp2_with (go_at_call 22; refine (block_yes _ _ K1.out).mono ?_; rintro e w' ⟨rfl, rfl⟩)
  rw [rounds_succ]
  go_wp2_with (go_at_call 22; refine (block_yes _ _ K2.out).mono ?_; rintro e w' ⟨rfl, rfl⟩)
  rw [rounds_succ]
  go_wp2_with (go_at_call 22; refine (block_yes _ _ K3.out).mono ?_; rintro e w' ⟨rfl, rfl⟩)
  rw [rounds_succ]
  go_wp2_with (go_at_call 22; refine (block_yes _ _ K4.out).mono ?_; rintro e w' ⟨rfl, rfl⟩)
  rw [rounds_succ]
  go_wp2
  go_ret
  exact ⟨rfl, below_box0 _ _⟩
set_option maxHeartbeats 1000000 in
theorem refRight_c3 (k l s v d0 d1 d2 d3 d4 m : Int) (w : World) (hk : ¬ k = 0) (h0 : -1 ≤ d0 ∧ d0 ≤ 95) (h1 : -1 ≤ d1 ∧ d1 ≤ 95) (h2 : -1 ≤ d2 ∧ d2 ≤ 95) (h3 : -1 ≤ d3 ∧ d3 ≤ 95) (h4 : -1 ≤ d4 ∧ d4 ≤ 95) (c0 : 1 ≤ k) (c1 : k ≤ 3) (c2 : 0 ≤ l) (c3 : ¬ l ≤ 255) :
    Calls Try.prog 6 #[.agg #[.int .i64 k, .int .i64 l, .int .i64 s, .int .u64 v, .int .i64 d0, .int .i64 d1, .int .i64 d2, .int .i64 d3, .int .i64 d4, .int .i64 m]] w fun e w' => e = .returned (.bool false) ∧ Below w.heap.size w w' := by
  have hk' : (k == 0) = false := by rw [beq_eq_false_iff_ne]; exact hk
  clear hk
  have K0 : Hid (-1 ≤ d0 ∧ d0 ≤ 95) := h0
  clear h0
  have K1 : Hid (-1 ≤ d1 ∧ d1 ≤ 95) := h1
  clear h1
  have K2 : Hid (-1 ≤ d2 ∧ d2 ≤ 95) := h2
  clear h2
  have K3 : Hid (-1 ≤ d3 ∧ d3 ≤ 95) := h3
  clear h3
  have K4 : Hid (-1 ≤ d4 ∧ d4 ≤ 95) := h4
  clear h4
  go_enter Try.func6, Try.ntmps6
  go_wp2_with fail
  refine wp_loop_rounds 6 ?_
  rw [rounds_succ]
  go_wp2_with (go_at_call 22; refine (block_yes _ _ K0.out).mono ?_; rintro e w' ⟨rfl, rfl⟩)
  rw [rounds_succ]
  go_wp2_with (go_at_call 22; refine (block_yes _ _ K1.out).mono ?_; rintro e w' ⟨rfl, rfl⟩)
  rw [rounds_succ]
  go_wp2_with (go_at_call 22; refine (block_yes _ _ K2.out).mono ?_; rintro e w' ⟨rfl, rfl⟩)
  rw [rounds_succ]
  go_wp2_with (go_at_call 22; refine (block_yes _ _ K3.out).mono ?_; rintro e w' ⟨rfl, rfl⟩)
  rw [rounds_succ]
  go_wp2_with (go_at_call 22; refine (block_yes _ _ K4.out).mono ?_; rintro e w' ⟨rfl, rfl⟩)
  rw [rounds_succ]
  go_wp2
  go_ret
  exact ⟨rfl, below_box0 _ _⟩
set_option maxHeartbeats 1000000 in
theorem refRight_c4 (k l s v d0 d1 d2 d3 d4 m : Int) (w : World) (hk : ¬ k = 0) (h0 : -1 ≤ d0 ∧ d0 ≤ 95) (h1 : -1 ≤ d1 ∧ d1 ≤ 95) (h2 : -1 ≤ d2 ∧ d2 ≤ 95) (h3 : -1 ≤ d3 ∧ d3 ≤ 95) (h4 : -1 ≤ d4 ∧ d4 ≤ 95) (c0 : 1 ≤ k) (c1 : k ≤ 3) (c2 : 0 ≤ l) (c3 : l ≤ 255) (c4 : ¬ 0 ≤ s) :
    Calls Try.prog 6 #[.agg #[.int .i64 k, .int .i64 l, .int .i64 s, .int .u64 v, .int .i64 d0, .int .i64 d1, .int .i64 d2, .int .i64 d3, .int .i64 d4, .int .i64 m]] w fun e w' => e = .returned (.bool false) ∧ Below w.heap.size w w' := by
  have hk' : (k == 0) = false := by rw [beq_eq_false_iff_ne]; exact hk
  clear hk
  have K0 : Hid (-1 ≤ d0 ∧ d0 ≤ 95) := h0
  clear h0
  have K1 : Hid (-1 ≤ d1 ∧ d1 ≤ 95) := h1
  clear h1
  have K2 : Hid (-1 ≤ d2 ∧ d2 ≤ 95) := h2
  clear h2
  have K3 : Hid (-1 ≤ d3 ∧ d3 ≤ 95) := h3
  clear h3
  have K4 : Hid (-1 ≤ d4 ∧ d4 ≤ 95) := h4
  clear h4
  go_enter Try.func6, Try.ntmps6
  go_wp2_with fail
  refine wp_loop_rounds 6 ?_
  rw [rounds_succ]
  go_wp2_with (go_at_call 22; refine (block_yes _ _ K0.out).mono ?_; rintro e w' ⟨rfl, rfl⟩)
  rw [rounds_succ]
  go_wp2_with (go_at_call 22; refine (block_yes _ _ K1.out).mono ?_; rintro e w' ⟨rfl, rfl⟩)
  rw [rounds_succ]
  go_wp2_with (go_at_call 22; refine (block_yes _ _ K2.out).mono ?_; rintro e w' ⟨rfl, rfl⟩)
  rw [rounds_succ]
  go_wp2_with (go_at_call 22; refine (block_yes _ _ K3.out).mono ?_; rintro e w' ⟨rfl, rfl⟩)
  rw [rounds_succ]
  go_wp2_with (go_at_call 22; refine (block_yes _ _ K4.out).mono ?_; rintro e w' ⟨rfl, rfl⟩)
  rw [rounds_succ]
  go_wp2
  go_ret
  exact ⟨rfl, below_box0 _ _⟩
set_option maxHeartbeats 1000000 in
theorem refRight_c5 (k l s v d0 d1 d2 d3 d4 m : Int) (w : World) (hk : ¬ k = 0) (h0 : -1 ≤ d0 ∧ d0 ≤ 95) (h1 : -1 ≤ d1 ∧ d1 ≤ 95) (h2 : -1 ≤ d2 ∧ d2 ≤ 95) (h3 : -1 ≤ d3 ∧ d3 ≤ 95) (h4 : -1 ≤ d4 ∧ d4 ≤ 95) (c0 : 1 ≤ k) (c1 : k ≤ 3) (c2 : 0 ≤ l) (c3 : l ≤ 255) (c4 : 0 ≤ s) (c5 : ¬ s ≤ 2688) :
    Calls Try.prog 6 #[.agg #[.int .i64 k, .int .i64 l, .int .i64 s, .int .u64 v, .int .i64 d0, .int .i64 d1, .int .i64 d2, .int .i64 d3, .int .i64 d4, .int .i64 m]] w fun e w' => e = .returned (.bool false) ∧ Below w.heap.size w w' := by
  have hk' : (k == 0) = false := by rw [beq_eq_false_iff_ne]; exact hk
  clear hk
  have K0 : Hid (-1 ≤ d0 ∧ d0 ≤ 95) := h0
  clear h0
  have K1 : Hid (-1 ≤ d1 ∧ d1 ≤ 95) := h1
  clear h1
  have K2 : Hid (-1 ≤ d2 ∧ d2 ≤ 95) := h2
  clear h2
  have K3 : Hid (-1 ≤ d3 ∧ d3 ≤ 95) := h3
  clear h3
  have K4 : Hid (-1 ≤ d4 ∧ d4 ≤ 95) := h4
  clear h4
  go_enter Try.func6, Try.ntmps6
  go_wp2_with fail
  refine wp_loop_rounds 6 ?_
  rw [rounds_succ]
  go_wp2_with (go_at_call 22; refine (block_yes _ _ K0.out).mono ?_; rintro e w' ⟨rfl, rfl⟩)
  rw [rounds_succ]
  go_wp2_with (go_at_call 22; refine (block_yes _ _ K1.out).mono ?_; rintro e w' ⟨rfl, rfl⟩)
  rw [rounds_succ]
  go_wp2_with (go_at_call 22; refine (block_yes _ _ K2.out).mono ?_; rintro e w' ⟨rfl, rfl⟩)
  rw [rounds_succ]
  go_wp2_with (go_at_call 22; refine (block_yes _ _ K3.out).mono ?_; rintro e w' ⟨rfl, rfl⟩)
  rw [rounds_succ]
  go_wp2_with (go_at_call 22; refine (block_yes _ _ K4.out).mono ?_; rintro e w' ⟨rfl, rfl⟩)
  rw [rounds_succ]
  go_wp2
  go_ret
  exact ⟨rfl, below_box0 _ _⟩
set_option maxHeartbeats 1000000 in
theorem refRight_c6 (k l s v d0 d1 d2 d3 d4 m : Int) (w : World) (hk : ¬ k = 0) (h0 : -1 ≤ d0 ∧ d0 ≤ 95) (h1 : -1 ≤ d1 ∧ d1 ≤ 95) (h2 : -1 ≤ d2 ∧ d2 ≤ 95) (h3 : -1 ≤ d3 ∧ d3 ≤ 95) (h4 : -1 ≤ d4 ∧ d4 ≤ 95) (c0 : 1 ≤ k) (c1 : k ≤ 3) (c2 : 0 ≤ l) (c3 : l ≤ 255) (c4 : 0 ≤ s) (c5 : s ≤ 2688) (h5 : ¬ (-1 ≤ m ∧ m ≤ 95)) :
    Calls Try.prog 6 #[.agg #[.int .i64 k, .int .i64 l, .int .i64 s, .int .u64 v, .int .i64 d0, .int .i64 d1, .int .i64 d2, .int .i64 d3, .int .i64 d4, .int .i64 m]] w fun e w' => e = .returned (.bool false) ∧ Below w.heap.size w w' := by
  have hk' : (k == 0) = false := by rw [beq_eq_false_iff_ne]; exact hk
  clear hk
  have K0 : Hid (-1 ≤ d0 ∧ d0 ≤ 95) := h0
  clear h0
  have K1 : Hid (-1 ≤ d1 ∧ d1 ≤ 95) := h1
  clear h1
  have K2 : Hid (-1 ≤ d2 ∧ d2 ≤ 95) := h2
  clear h2
  have K3 : Hid (-1 ≤ d3 ∧ d3 ≤ 95) := h3
  clear h3
  have K4 : Hid (-1 ≤ d4 ∧ d4 ≤ 95) := h4
  clear h4
  have K5 : Hid (¬ (-1 ≤ m ∧ m ≤ 95)) := h5
  clear h5
  go_enter Try.func6, Try.ntmps6
  go_wp2_with fail
  refine wp_loop_rounds 6 ?_
  rw [rounds_succ]
  go_wp2_with (go_at_call 22; refine (block_yes _ _ K0.out).mono ?_; rintro e w' ⟨rfl, rfl⟩)
  rw [rounds_succ]
  go_wp2_with (go_at_call 22; refine (block_yes _ _ K1.out).mono ?_; rintro e w' ⟨rfl, rfl⟩)
  rw [rounds_succ]
  go_wp2_with (go_at_call 22; refine (block_yes _ _ K2.out).mono ?_; rintro e w' ⟨rfl, rfl⟩)
  rw [rounds_succ]
  go_wp2_with (go_at_call 22; refine (block_yes _ _ K3.out).mono ?_; rintro e w' ⟨rfl, rfl⟩)
  rw [rounds_succ]
  go_wp2_with (go_at_call 22; refine (block_yes _ _ K4.out).mono ?_; rintro e w' ⟨rfl, rfl⟩)
  rw [rounds_succ]
  go_wp2_with (go_at_call 22; refine (block_no _ _ K5.out).mono ?_; rintro e w' ⟨rfl, rfl⟩)
  go_ret
  exact ⟨rfl, below_box0 _ _⟩
set_option maxHeartbeats 1000000 in
theorem refRight_c7 (k l s v d0 d1 d2 d3 d4 m : Int) (w : World) (hk : ¬ k = 0) (h0 : -1 ≤ d0 ∧ d0 ≤ 95) (h1 : -1 ≤ d1 ∧ d1 ≤ 95) (h2 : -1 ≤ d2 ∧ d2 ≤ 95) (h3 : -1 ≤ d3 ∧ d3 ≤ 95) (h4 : -1 ≤ d4 ∧ d4 ≤ 95) (c0 : 1 ≤ k) (c1 : k ≤ 3) (c2 : 0 ≤ l) (c3 : l ≤ 255) (c4 : 0 ≤ s) (c5 : s ≤ 2688) (h5 : -1 ≤ m ∧ m ≤ 95) :
    Calls Try.prog 6 #[.agg #[.int .i64 k, .int .i64 l, .int .i64 s, .int .u64 v, .int .i64 d0, .int .i64 d1, .int .i64 d2, .int .i64 d3, .int .i64 d4, .int .i64 m]] w fun e w' => e = .returned (.bool true) ∧ Below w.heap.size w w' := by
  have hk' : (k == 0) = false := by rw [beq_eq_false_iff_ne]; exact hk
  clear hk
  have K0 : Hid (-1 ≤ d0 ∧ d0 ≤ 95) := h0
  clear h0
  have K1 : Hid (-1 ≤ d1 ∧ d1 ≤ 95) := h1
  clear h1
  have K2 : Hid (-1 ≤ d2 ∧ d2 ≤ 95) := h2
  clear h2
  have K3 : Hid (-1 ≤ d3 ∧ d3 ≤ 95) := h3
  clear h3
  have K4 : Hid (-1 ≤ d4 ∧ d4 ≤ 95) := h4
  clear h4
  have K5 : Hid ((-1 ≤ m ∧ m ≤ 95)) := h5
  clear h5
  go_enter Try.func6, Try.ntmps6
  go_wp2_with fail
  refine wp_loop_rounds 6 ?_
  rw [rounds_succ]
  go_wp2_with (go_at_call 22; refine (block_yes _ _ K0.out).mono ?_; rintro e w' ⟨rfl, rfl⟩)
  rw [rounds_succ]
  go_wp2_with (go_at_call 22; refine (block_yes _ _ K1.out).mono ?_; rintro e w' ⟨rfl, rfl⟩)
  rw [rounds_succ]
  go_wp2_with (go_at_call 22; refine (block_yes _ _ K2.out).mono ?_; rintro e w' ⟨rfl, rfl⟩)
  rw [rounds_succ]
  go_wp2_with (go_at_call 22; refine (block_yes _ _ K3.out).mono ?_; rintro e w' ⟨rfl, rfl⟩)
  rw [rounds_succ]
  go_wp2_with (go_at_call 22; refine (block_yes _ _ K4.out).mono ?_; rintro e w' ⟨rfl, rfl⟩)
  rw [rounds_succ]
  go_wp2_with (go_at_call 22; refine (block_yes _ _ K5.out).mono ?_; rintro e w' ⟨rfl, rfl⟩)
  go_ret
  exact ⟨rfl, below_box0 _ _⟩

theorem refRight_yes (k l s v d0 d1 d2 d3 d4 m : Int) (w : World) (h : Rt k l s d0 d1 d2 d3 d4 m) :
    Calls Try.prog 6 #[.agg #[.int .i64 k, .int .i64 l, .int .i64 s, .int .u64 v, .int .i64 d0, .int .i64 d1, .int .i64 d2, .int .i64 d3, .int .i64 d4, .int .i64 m]] w fun e w' => e = .returned (.bool true) ∧ Below w.heap.size w w' := by
  rcases h with h | ⟨hk, hl, hs, h0, h1, h2, h3, h4, h5⟩
  · have h' := h
    obtain ⟨rfl, _⟩ := h'
    exact refRight_free l s v d0 d1 d2 d3 d4 m w true (by simp [h])
  · exact refRight_c7 k l s v d0 d1 d2 d3 d4 m w (by omega) h0 h1 h2 h3 h4 (by omega) (by omega) (by omega) (by omega) (by omega) (by omega) h5
theorem refRight_no (k l s v d0 d1 d2 d3 d4 m : Int) (w : World) (h : ¬ Rt k l s d0 d1 d2 d3 d4 m) :
    Calls Try.prog 6 #[.agg #[.int .i64 k, .int .i64 l, .int .i64 s, .int .u64 v, .int .i64 d0, .int .i64 d1, .int .i64 d2, .int .i64 d3, .int .i64 d4, .int .i64 m]] w fun e w' => e = .returned (.bool false) ∧ Below w.heap.size w w' := by
  by_cases hk : k = 0
  · subst hk
    exact refRight_free l s v d0 d1 d2 d3 d4 m w false ⟨fun hn => absurd (.inl hn) h, fun hf => by cases hf⟩
  by_cases h0 : -1 ≤ d0 ∧ d0 ≤ 95
  case neg => exact refRight_b0 k l s v d0 d1 d2 d3 d4 m w hk h0
  by_cases h1 : -1 ≤ d1 ∧ d1 ≤ 95
  case neg => exact refRight_b1 k l s v d0 d1 d2 d3 d4 m w hk h0 h1
  by_cases h2 : -1 ≤ d2 ∧ d2 ≤ 95
  case neg => exact refRight_b2 k l s v d0 d1 d2 d3 d4 m w hk h0 h1 h2
  by_cases h3 : -1 ≤ d3 ∧ d3 ≤ 95
  case neg => exact refRight_b3 k l s v d0 d1 d2 d3 d4 m w hk h0 h1 h2 h3
  by_cases h4 : -1 ≤ d4 ∧ d4 ≤ 95
  case neg => exact refRight_b4 k l s v d0 d1 d2 d3 d4 m w hk h0 h1 h2 h3 h4
  by_cases c0 : 1 ≤ k
  case neg => exact refRight_c0 k l s v d0 d1 d2 d3 d4 m w hk h0 h1 h2 h3 h4 c0
  by_cases c1 : k ≤ 3
  case neg => exact refRight_c1 k l s v d0 d1 d2 d3 d4 m w hk h0 h1 h2 h3 h4 c0 c1
  by_cases c2 : 0 ≤ l
  case neg => exact refRight_c2 k l s v d0 d1 d2 d3 d4 m w hk h0 h1 h2 h3 h4 c0 c1 c2
  by_cases c3 : l ≤ 255
  case neg => exact refRight_c3 k l s v d0 d1 d2 d3 d4 m w hk h0 h1 h2 h3 h4 c0 c1 c2 c3
  by_cases c4 : 0 ≤ s
  case neg => exact refRight_c4 k l s v d0 d1 d2 d3 d4 m w hk h0 h1 h2 h3 h4 c0 c1 c2 c3 c4
  by_cases c5 : s ≤ 2688
  case neg => exact refRight_c5 k l s v d0 d1 d2 d3 d4 m w hk h0 h1 h2 h3 h4 c0 c1 c2 c3 c4 c5
  by_cases h5 : -1 ≤ m ∧ m ≤ 95
  case neg => exact refRight_c6 k l s v d0 d1 d2 d3 d4 m w hk h0 h1 h2 h3 h4 c0 c1 c2 c3 c4 c5 h5
  exact absurd (.inr ⟨by omega, ⟨c2, c3⟩, ⟨c4, c5⟩, h0, h1, h2, h3, h4, h5⟩) h
end Go.Proofs.Ytdjnkibnnjobpaa.Cd
