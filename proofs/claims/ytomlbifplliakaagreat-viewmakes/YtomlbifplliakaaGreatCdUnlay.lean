/- Contract of unlay: what the fields of eight words say. -/
import Derived.Test.YtomlbifplliakaaGreatCdWords
import Derived.Test.YtomlbifplliakaaGreatCdRight
import Derived.Deep.RegionWith
namespace Go.Proofs.YtomlbifplliakaaGreat.Cd
open Go.RowKit

theorem get_to (x r : Int) (a n : Nat) (p q : Int) (w : World) (hp : ((2 ^ a : Nat) : Int) = p) (hq : ((2 ^ n : Nat) : Int) = q) (h1 : 1 ≤ n) (h3 : n ≤ 32) (h2 : a + n ≤ 64) (h : 0 ≤ x ∧ x ≤ 18446744073709551615) (hr : x / p % q = r) :
    Calls Tryz.prog 81 #[.int .u64 x, .int .i64 a, .int .i64 n] w fun e w' => e = .returned (.int .i64 r) ∧ w' = w := by
  subst hr
  exact get_any x a n p q w hp hq h.1 h.2 h1 h3 h2

theorem copy_held (r0 r1 r2 a1 g0 g1 g2 g3 g4 g5 : Int) (w : World) (box : Array Value) :
    (Builtin.copy_ #[39, 39] 3 #[.slice (some ⟨w.heap.size + 1 + 1, 4, none⟩) 5 5, .slice (some ⟨w.heap.size + 1 + 1 + 1, 0, none⟩) 6 6]).run Tryz.prog
      ((((w.alloc (.cells box 100)).alloc (.cells #[.int .i64 0, .int .i64 0, .int .i64 0, .int .u64 0, .int .i64 0, .int .i64 0, .int .i64 0, .int .i64 0, .int .i64 0, .int .i64 0] 38)).alloc (.cells #[.int .i64 r0, .int .i64 r1, .int .i64 r2, .int .u64 a1, .int .i64 0, .int .i64 0, .int .i64 0, .int .i64 0, .int .i64 0, .int .i64 0] 38)).alloc (.cells #[.int .i64 g0, .int .i64 g1, .int .i64 g2, .int .i64 g3, .int .i64 g4, .int .i64 g5] 110)).drew.drew
      = .ok (.int .i64 5) ((((w.alloc (.cells box 100)).alloc (.cells #[.int .i64 0, .int .i64 0, .int .i64 0, .int .u64 0, .int .i64 0, .int .i64 0, .int .i64 0, .int .i64 0, .int .i64 0, .int .i64 0] 38)).alloc (.cells #[.int .i64 r0, .int .i64 r1, .int .i64 r2, .int .u64 a1, .int .i64 g0, .int .i64 g1, .int .i64 g2, .int .i64 g3, .int .i64 g4, .int .i64 0] 38)).alloc (.cells #[.int .i64 g0, .int .i64 g1, .int .i64 g2, .int .i64 g3, .int .i64 g4, .int .i64 g5] 110)).drew.drew := by
  rw [run_copy_cells (P := Tryz.prog) _ 39 39 3 3 (w.heap.size + 1 + 1) 4 5 5 ⟨w.heap.size + 1 + 1 + 1, 0, none⟩ 6 6 [.int .i64 g0, .int .i64 g1, .int .i64 g2, .int .i64 g3, .int .i64 g4] Tryz.underlying39 info3 rfl ?_ ?_ ?_ ?_]
  · simp [World.setCells, go_sem]
  · intro j u hj
    match j, hj with
    | 0, hj => cases hj; simp [go_sem]
    | 1, hj => cases hj; simp [go_sem]
    | 2, hj => cases hj; simp [go_sem]
    | 3, hj => cases hj; simp [go_sem]
    | 4, hj => cases hj; simp [go_sem]
  · intro j hj
    match j, hj with
    | 0, _ => simp [go_sem]
    | 1, _ => simp [go_sem]
    | 2, _ => simp [go_sem]
    | 3, _ => simp [go_sem]
    | 4, _ => simp [go_sem]
  · intro j hj
    simp [go_sem]
  · simp [Value.oneCell']

set_option maxHeartbeats 2000000 in
theorem unlay_go (a0 a1 a2 a3 a4 a5 a6 a7 : Int) (r0 r1 r2 g0 g1 g2 g3 g4 g5 : Int) (w : World) (h0 : 0 ≤ a0 ∧ a0 ≤ 18446744073709551615) (h2 : 0 ≤ a2 ∧ a2 ≤ 18446744073709551615) (h3 : 0 ≤ a3 ∧ a3 ≤ 18446744073709551615)
    (e0 : a0 / 1 % 256 = r0) (e1 : a0 / 256 % 65536 = r1) (e2 : a0 / 16777216 % 4294967296 = r2) (f0 : a2 / 1 % 65536 = g0) (f1 : a2 / 65536 % 65536 = g1) (f2 : a2 / 4294967296 % 65536 = g2) (f3 : a2 / 281474976710656 % 65536 = g3) (f4 : a3 / 1 % 65536 = g4) (f5 : a3 / 65536 % 65536 = g5) :
    Calls Tryz.prog 72 #[.agg #[.int .u64 a0, .int .u64 a1, .int .u64 a2, .int .u64 a3, .int .u64 a4, .int .u64 a5, .int .u64 a6, .int .u64 a7]] w fun e w' => e = .returned (.agg #[.int .i64 r0, .int .i64 r1, .int .i64 r2, .int .u64 a1, .int .i64 (g0 + -1), .int .i64 (g1 + -1), .int .i64 (g2 + -1), .int .i64 (g3 + -1), .int .i64 (g4 + -1), .int .i64 (g5 + -1)]) ∧ Below w.heap.size w w' := by
  have G1 : Hid (∀ w, Calls Tryz.prog 81 #[.int .u64 a0, .int .i64 0, .int .i64 8] w fun e w' => e = .returned (.int .i64 r0) ∧ w' = w) := fun w => get_to a0 r0 0 8 1 256 w rfl rfl (by omega) (by omega) (by omega) h0 e0
  have G2 : Hid (∀ w, Calls Tryz.prog 81 #[.int .u64 a0, .int .i64 8, .int .i64 16] w fun e w' => e = .returned (.int .i64 r1) ∧ w' = w) := fun w => get_to a0 r1 8 16 256 65536 w rfl rfl (by omega) (by omega) (by omega) h0 e1
  have G3 : Hid (∀ w, Calls Tryz.prog 81 #[.int .u64 a0, .int .i64 24, .int .i64 32] w fun e w' => e = .returned (.int .i64 r2) ∧ w' = w) := fun w => get_to a0 r2 24 32 16777216 4294967296 w rfl rfl (by omega) (by omega) (by omega) h0 e2
  have H0 : Hid (∀ w, Calls Tryz.prog 81 #[.int .u64 a2, .int .i64 0, .int .i64 16] w fun e w' => e = .returned (.int .i64 g0) ∧ w' = w) := fun w => get_to a2 g0 0 16 1 65536 w rfl rfl (by omega) (by omega) (by omega) h2 f0
  have H1 : Hid (∀ w, Calls Tryz.prog 81 #[.int .u64 a2, .int .i64 16, .int .i64 16] w fun e w' => e = .returned (.int .i64 g1) ∧ w' = w) := fun w => get_to a2 g1 16 16 65536 65536 w rfl rfl (by omega) (by omega) (by omega) h2 f1
  have H2 : Hid (∀ w, Calls Tryz.prog 81 #[.int .u64 a2, .int .i64 32, .int .i64 16] w fun e w' => e = .returned (.int .i64 g2) ∧ w' = w) := fun w => get_to a2 g2 32 16 4294967296 65536 w rfl rfl (by omega) (by omega) (by omega) h2 f2
  have H3 : Hid (∀ w, Calls Tryz.prog 81 #[.int .u64 a2, .int .i64 48, .int .i64 16] w fun e w' => e = .returned (.int .i64 g3) ∧ w' = w) := fun w => get_to a2 g3 48 16 281474976710656 65536 w rfl rfl (by omega) (by omega) (by omega) h2 f3
  have H4 : Hid (∀ w, Calls Tryz.prog 81 #[.int .u64 a3, .int .i64 0, .int .i64 16] w fun e w' => e = .returned (.int .i64 g4) ∧ w' = w) := fun w => get_to a3 g4 0 16 1 65536 w rfl rfl (by omega) (by omega) (by omega) h3 f4
  have H5 : Hid (∀ w, Calls Tryz.prog 81 #[.int .u64 a3, .int .i64 16, .int .i64 16] w fun e w' => e = .returned (.int .i64 g5) ∧ w' = w) := fun w => get_to a3 g5 16 16 65536 65536 w rfl rfl (by omega) (by omega) (by omega) h3 f5
  have bg0 : 0 ≤ g0 ∧ g0 ≤ 65535 := by omega
  have bg1 : 0 ≤ g1 ∧ g1 ≤ 65535 := by omega
  have bg2 : 0 ≤ g2 ∧ g2 ≤ 65535 := by omega
  have bg3 : 0 ≤ g3 ∧ g3 ≤ 65535 := by omega
  have bg4 : 0 ≤ g4 ∧ g4 ≤ 65535 := by omega
  have bg5 : 0 ≤ g5 ∧ g5 ≤ 65535 := by omega
  have hc := copy_held r0 r1 r2 a1 (g0 + -1) (g1 + -1) (g2 + -1) (g3 + -1) (g4 + -1) (g5 + -1) w #[.int .u64 a0, .int .u64 a1, .int .u64 a2, .int .u64 a3, .int .u64 a4, .int .u64 a5, .int .u64 a6, .int .u64 a7]
  clear e0 e1 e2 f0 f1 f2 f3 f4 f5 h0 h2 h3
  go_enter Tryz.func72, Tryz.ntmps72
  go_wp2_with fail
  go_region_held3 (fun v' => v'.cell? ⟨w.heap.size, 0, none⟩ = some (.int .u64 a0) ∧ v'.cell? ⟨w.heap.size, 1, none⟩ = some (.int .u64 a1)) (go_keep)
    (first
      | (go_at_call_of 81 (Value.int IntKind.i64 0); refine Calls.mono (G1.out _) ?_; rintro e v1 ⟨rfl, rfl⟩)
      | (go_at_call_of 81 (Value.int IntKind.i64 16); refine Calls.mono (G2.out _) ?_; rintro e v2 ⟨rfl, rfl⟩)
      | (go_at_call_of 81 (Value.int IntKind.i64 24); refine Calls.mono (G3.out _) ?_; rintro e v3 ⟨rfl, rfl⟩))
  all_goals
    go_wp2_with fail
    refine wp_loop_rounds 7 ?_
    rw [rounds_succ]
    go_wp2_with fail
    refine Calls.mono (H0.out _) ?_
    rintro e w' ⟨rfl, rfl⟩
    go_wp2_with fail
    rw [rounds_succ]
    go_wp2_with fail
    refine Calls.mono (H1.out _) ?_
    rintro e w' ⟨rfl, rfl⟩
    go_wp2_with fail
    rw [rounds_succ]
    go_wp2_with fail
    refine Calls.mono (H2.out _) ?_
    rintro e w' ⟨rfl, rfl⟩
    go_wp2_with fail
    rw [rounds_succ]
    go_wp2_with fail
    refine Calls.mono (H3.out _) ?_
    rintro e w' ⟨rfl, rfl⟩
    go_wp2_with fail
    rw [rounds_succ]
    go_wp2_with fail
    refine Calls.mono (H4.out _) ?_
    rintro e w' ⟨rfl, rfl⟩
    go_wp2_with fail
    rw [rounds_succ]
    go_wp2_with fail
    refine Calls.mono (H5.out _) ?_
    rintro e w' ⟨rfl, rfl⟩
    go_wp2_with fail
    rw [rounds_succ]
    go_wp2_with fail
    go_region
    go_wp2
    refine bodyPost_ret (v := .agg #[_, _, _, _, _, _, _, _, _, _]) (by simp [results, Tryz.results72, go_sem]) rfl ⟨rfl, ?_⟩
    exact ((((((Below.refl _ _).alloc (Nat.le_refl _) _).alloc (by simp) _).alloc (by simp; omega) _).alloc (by simp; omega) _)).drew.drew

/-- What the fields of the first, third and fourth word say. -/
def Says (a0 a2 a3 k l s d0 d1 d2 d3 d4 m : Int) : Prop :=
  k = a0 % 256 ∧ l = a0 / 256 % 65536 ∧ s = a0 / 16777216 % 4294967296 ∧ d0 = a2 % 65536 - 1 ∧ d1 = a2 / 65536 % 65536 - 1 ∧ d2 = a2 / 4294967296 % 65536 - 1 ∧ d3 = a2 / 281474976710656 % 65536 - 1 ∧ d4 = a3 % 65536 - 1 ∧ m = a3 / 65536 % 65536 - 1
theorem unlay_any (a0 a1 a2 a3 a4 a5 a6 a7 k l s d0 d1 d2 d3 d4 m : Int) (w : World) (h0 : 0 ≤ a0 ∧ a0 ≤ 18446744073709551615) (h2 : 0 ≤ a2 ∧ a2 ≤ 18446744073709551615) (h3 : 0 ≤ a3 ∧ a3 ≤ 18446744073709551615) (h : Says a0 a2 a3 k l s d0 d1 d2 d3 d4 m) :
    Calls Tryz.prog 72 #[.agg #[.int .u64 a0, .int .u64 a1, .int .u64 a2, .int .u64 a3, .int .u64 a4, .int .u64 a5, .int .u64 a6, .int .u64 a7]] w fun e w' => e = .returned (.agg #[.int .i64 k, .int .i64 l, .int .i64 s, .int .u64 a1, .int .i64 d0, .int .i64 d1, .int .i64 d2, .int .i64 d3, .int .i64 d4, .int .i64 m]) ∧ Below w.heap.size w w' := by
  have e := unlay_go a0 a1 a2 a3 a4 a5 a6 a7 k l s (d0 + 1) (d1 + 1) (d2 + 1) (d3 + 1) (d4 + 1) (m + 1) w h0 h2 h3
  unfold Says at h
  have e' := e (by omega) (by omega) (by omega) (by omega) (by omega) (by omega) (by omega) (by omega) (by omega)
  have q : ∀ x : Int, x + 1 + -1 = x := fun x => by omega
  rw [q, q, q, q, q, q] at e'
  exact e'
end Go.Proofs.YtomlbifplliakaaGreat.Cd
