/- Contracts of the package's small functions on cards (no file's card, blocks, within, is it a file's kind) and of fields of words, for every card and number; what lay in memory before stays. -/
import Derived.Test.YtomlbifplliakaaGreatProg
import Derived.Test.YtomlbifplliakaaGreatCdMath
import Derived.WalkKit
import Derived.WalkLawsBesides
import Derived.Laws.StructEq
import Derived.Laws.IdiomCopy
import Derived.ChangeKeysEq
import Derived.Handy
import Derived.BigQuiet
namespace Go.Proofs.YtomlbifplliakaaGreat.Cd
open Go.RowKit

theorem ret_bool {a b : Bool} (h : a = b) : Ending.returned (.bool a) = .returned (.bool b) := by rw [h]
theorem ret_int {k : IntKind} {a b : Int} (h : a = b) : Ending.returned (.int k a) = .returned (.int k b) := by rw [h]
theorem ret_pair {k l : IntKind} {a b : Int} {c : Int} (h : a = b) : Ending.returned (.tuple #[.int k a, .int l c]) = .returned (.tuple #[.int k b, .int l c]) := by rw [h]

/-- The block g holds a card. -/
def Ten (w : World) (g : Nat) (k l s v d0 d1 d2 d3 d4 m : Int) : Prop := w.cell? ⟨g, 0, none⟩ = some (.int .i64 k) ∧ w.cell? ⟨g, 1, none⟩ = some (.int .i64 l) ∧ w.cell? ⟨g, 2, none⟩ = some (.int .i64 s) ∧ w.cell? ⟨g, 3, none⟩ = some (.int .u64 v) ∧ w.cell? ⟨g, 4, none⟩ = some (.int .i64 d0) ∧ w.cell? ⟨g, 5, none⟩ = some (.int .i64 d1) ∧ w.cell? ⟨g, 6, none⟩ = some (.int .i64 d2) ∧ w.cell? ⟨g, 7, none⟩ = some (.int .i64 d3) ∧ w.cell? ⟨g, 8, none⟩ = some (.int .i64 d4) ∧ w.cell? ⟨g, 9, none⟩ = some (.int .i64 m)
theorem Ten.later {w w' : World} {g : Nat} {k l s v d0 d1 d2 d3 d4 m : Int} (h : Ten w g k l s v d0 d1 d2 d3 d4 m) {B : Nat} (hg : g < B) (hb : Below B w w') : Ten w' g k l s v d0 d1 d2 d3 d4 m := by
  unfold Ten at h ⊢
  have e : ∀ o, w'.cell? ⟨g, o, none⟩ = w.cell? ⟨g, o, none⟩ := fun o => hb.cell (p := ⟨g, o, none⟩) hg
  simp only [e]
  exact h
theorem ten_alloc (w : World) (k l s v d0 d1 d2 d3 d4 m : Int) : Ten (w.alloc (.cells #[.int .i64 k, .int .i64 l, .int .i64 s, .int .u64 v, .int .i64 d0, .int .i64 d1, .int .i64 d2, .int .i64 d3, .int .i64 d4, .int .i64 m] 38)) w.heap.size k l s v d0 d1 d2 d3 d4 m := by
  unfold Ten
  simp [go_sem]
/-- A world with a card in its newest block: the card stays there, and what was below stays. -/
theorem new_card (w : World) (k l s v d0 d1 d2 d3 d4 m : Int) : ∃ W : World, w.alloc (.cells #[.int .i64 k, .int .i64 l, .int .i64 s, .int .u64 v, .int .i64 d0, .int .i64 d1, .int .i64 d2, .int .i64 d3, .int .i64 d4, .int .i64 m] 38) = W ∧ Hid (W.heap.size = w.heap.size + 1) ∧ Hid (∀ v', Below W.heap.size W v' → Below w.heap.size w v') ∧ Hid (∀ v', Below W.heap.size W v' → v'.cell? ⟨w.heap.size, 0, none⟩ = some (.int .i64 k) ∧ v'.cell? ⟨w.heap.size, 1, none⟩ = some (.int .i64 l) ∧ v'.cell? ⟨w.heap.size, 2, none⟩ = some (.int .i64 s) ∧ v'.cell? ⟨w.heap.size, 3, none⟩ = some (.int .u64 v) ∧ v'.cell? ⟨w.heap.size, 4, none⟩ = some (.int .i64 d0) ∧ v'.cell? ⟨w.heap.size, 5, none⟩ = some (.int .i64 d1) ∧ v'.cell? ⟨w.heap.size, 6, none⟩ = some (.int .i64 d2) ∧ v'.cell? ⟨w.heap.size, 7, none⟩ = some (.int .i64 d3) ∧ v'.cell? ⟨w.heap.size, 8, none⟩ = some (.int .i64 d4) ∧ v'.cell? ⟨w.heap.size, 9, none⟩ = some (.int .i64 m)) := by
  refine ⟨_, rfl, ?_, fun v' h => ?_, fun v' h => (ten_alloc w k l s v d0 d1 d2 d3 d4 m).later (by simp) h⟩
  · show _ = _
    simp
  · exact ((Below.refl _ _).alloc (Nat.le_refl _) _).trans (h.mono (by simp))

theorem none_any (v : Int) (w : World) :
    Calls Tryz.prog 83 #[.int .u64 v] w fun e w' => e = .returned (.agg #[.int .i64 0, .int .i64 0, .int .i64 0, .int .u64 v, .int .i64 (-1), .int .i64 (-1), .int .i64 (-1), .int .i64 (-1), .int .i64 (-1), .int .i64 (-1)]) ∧ Below w.heap.size w w' := by
  go_enter Tryz.func83, Tryz.ntmps83
  go_wp2
  refine wp_loop_rounds 6 ?_
  rw [rounds_succ]
  go_wp2
  rw [rounds_succ]
  go_wp2
  rw [rounds_succ]
  go_wp2
  rw [rounds_succ]
  go_wp2
  rw [rounds_succ]
  go_wp2
  rw [rounds_succ]
  go_wp2
  refine bodyPost_ret (v := .agg #[_, _, _, _, _, _, _, _, _, _]) (by simp [results, Tryz.results83, go_sem]) rfl ⟨rfl, ?_⟩
  exact ((Below.refl _ _).alloc (Nat.le_refl _) _).alloc (by simp) _

theorem info3 : (Tryz.prog.info? 3).map (·.size) = some 1 := by kernel_rfl
theorem info22 : (Tryz.prog.info? 35).map (·.size) = some 1 := by kernel_rfl
theorem some_info {t : TypeId} (h : (Tryz.prog.info? t).map (·.size) = some 1) : ∃ i, Tryz.prog.info? t = some i ∧ Tryz.prog.cellsOf t = 1 := by
  cases hq : Tryz.prog.info? t with
  | none => simp [hq] at h
  | some i =>
    refine ⟨i, rfl, ?_⟩
    simp [hq] at h
    simp [Program.cellsOf, hq, h]

theorem copy_blocks (k l s v d0 d1 d2 d3 d4 m : Int) (w : World) :
    (Builtin.copy_ #[39, 39] 3 #[.slice (some ⟨w.heap.size + 1 + 1, 0, none⟩) 6 6, .slice (some ⟨w.heap.size, 4, none⟩) 5 5]).run Tryz.prog
      (((w.alloc (.cells #[.int .i64 k, .int .i64 l, .int .i64 s, .int .u64 v, .int .i64 d0, .int .i64 d1, .int .i64 d2, .int .i64 d3, .int .i64 d4, .int .i64 m] 38)).alloc (.cells #[.int .i64 0, .int .i64 0, .int .i64 0, .int .i64 0, .int .i64 0, .int .i64 0] 110)).alloc (.cells #[.int .i64 0, .int .i64 0, .int .i64 0, .int .i64 0, .int .i64 0, .int .i64 0] 110)).drew
      = .ok (.int .i64 5) (((w.alloc (.cells #[.int .i64 k, .int .i64 l, .int .i64 s, .int .u64 v, .int .i64 d0, .int .i64 d1, .int .i64 d2, .int .i64 d3, .int .i64 d4, .int .i64 m] 38)).alloc (.cells #[.int .i64 0, .int .i64 0, .int .i64 0, .int .i64 0, .int .i64 0, .int .i64 0] 110)).alloc (.cells #[.int .i64 d0, .int .i64 d1, .int .i64 d2, .int .i64 d3, .int .i64 d4, .int .i64 0] 110)).drew := by
  rw [run_copy_cells (P := Tryz.prog) _ 39 39 3 3 (w.heap.size + 1 + 1) 0 6 6 ⟨w.heap.size, 4, none⟩ 5 5 [.int .i64 d0, .int .i64 d1, .int .i64 d2, .int .i64 d3, .int .i64 d4] Tryz.underlying39 info3 rfl ?_ ?_ ?_ ?_]
  · simp [World.setCells, go_sem]
  · intro j u hj
    match j, hj with
    | 0, hj => cases hj; simp [go_sem]
    | 1, hj => cases hj; simp [go_sem]
    | 2, hj => cases hj; simp [go_sem]
    | 3, hj => cases hj; simp [go_sem]
    | 4, hj => cases hj; simp [go_sem]
  · intro j hj
    match j, hj with
    | 0, _ => simp [go_sem]
    | 1, _ => simp [go_sem]
    | 2, _ => simp [go_sem]
    | 3, _ => simp [go_sem]
    | 4, _ => simp [go_sem]
  · intro j hj
    simp [go_sem]
  · simp [Value.oneCell']

theorem blocks_eq (k l s v d0 d1 d2 d3 d4 m : Int) (w : World) :
    Calls Tryz.prog 86 #[.agg #[.int .i64 k, .int .i64 l, .int .i64 s, .int .u64 v, .int .i64 d0, .int .i64 d1, .int .i64 d2, .int .i64 d3, .int .i64 d4, .int .i64 m]] w fun e w' => e = .returned (.agg #[.int .i64 d0, .int .i64 d1, .int .i64 d2, .int .i64 d3, .int .i64 d4, .int .i64 m])
      ∧ w' = (((w.alloc (.cells #[.int .i64 k, .int .i64 l, .int .i64 s, .int .u64 v, .int .i64 d0, .int .i64 d1, .int .i64 d2, .int .i64 d3, .int .i64 d4, .int .i64 m] 38)).alloc (.cells #[.int .i64 d0, .int .i64 d1, .int .i64 d2, .int .i64 d3, .int .i64 d4, .int .i64 m] 110)).alloc (.cells #[.int .i64 d0, .int .i64 d1, .int .i64 d2, .int .i64 d3, .int .i64 d4, .int .i64 m] 110)).drew := by
  have hc := copy_blocks k l s v d0 d1 d2 d3 d4 m w
  go_enter Tryz.func86, Tryz.ntmps86
  go_wp2
  go_region
  go_wp2
  refine bodyPost_ret (v := .agg #[_, _, _, _, _, _]) (by simp [results, Tryz.results86, go_sem]) rfl ⟨rfl, rfl⟩
theorem blocks_any (k l s v d0 d1 d2 d3 d4 m : Int) (w : World) :
    Calls Tryz.prog 86 #[.agg #[.int .i64 k, .int .i64 l, .int .i64 s, .int .u64 v, .int .i64 d0, .int .i64 d1, .int .i64 d2, .int .i64 d3, .int .i64 d4, .int .i64 m]] w fun e w' => e = .returned (.agg #[.int .i64 d0, .int .i64 d1, .int .i64 d2, .int .i64 d3, .int .i64 d4, .int .i64 m]) ∧ Below w.heap.size w w' := by
  refine (blocks_eq k l s v d0 d1 d2 d3 d4 m w).mono ?_
  rintro e w' ⟨rfl, rfl⟩
  exact ⟨rfl, ((((Below.refl _ _).alloc (Nat.le_refl _) _).alloc (by simp) _).alloc (by simp; omega) _).drew⟩

theorem isFile_yes (k : Int) (w : World) (h : k = 1 ∨ k = 2 ∨ k = 3) : Calls Tryz.prog 82 #[.int .i64 k] w fun e w' => e = .returned (.bool true) ∧ w' = w := by
  rcases h with rfl | rfl | rfl
  all_goals
    go_enter Tryz.func82, Tryz.ntmps82
    go_wp2
    go_ret
    exact ⟨rfl, rfl⟩
theorem isFile_no (k : Int) (w : World) (h : ¬ (k = 1 ∨ k = 2 ∨ k = 3)) : Calls Tryz.prog 82 #[.int .i64 k] w fun e w' => e = .returned (.bool false) ∧ w' = w := by
  have h1 : (k == 1) = false := by rw [beq_eq_false_iff_ne]; omega
  have h2 : (k == 2) = false := by rw [beq_eq_false_iff_ne]; omega
  have h3 : (k == 3) = false := by rw [beq_eq_false_iff_ne]; omega
  clear h
  go_enter Tryz.func82, Tryz.ntmps82
  go_wp2
  go_ret
  exact ⟨rfl, rfl⟩

theorem within_any (n a b : Int) (w : World) : Calls Tryz.prog 84 #[.int .i64 n, .int .i64 a, .int .i64 b] w fun e w' => e = .returned (.bool (decide (a ≤ n ∧ n ≤ b))) ∧ w' = w := by
  by_cases h1 : a ≤ n
  · by_cases h2 : n ≤ b
    · rw [decide_eq_true ⟨h1, h2⟩]
      go_enter Tryz.func84, Tryz.ntmps84
      go_wp2
      go_ret
      exact ⟨rfl, rfl⟩
    · rw [decide_eq_false (fun h => h2 h.2)]
      go_enter Tryz.func84, Tryz.ntmps84
      go_wp2
      go_ret
      exact ⟨rfl, rfl⟩
  · rw [decide_eq_false (fun h => h1 h.1)]
    go_enter Tryz.func84, Tryz.ntmps84
    go_wp2
    go_ret
    exact ⟨rfl, rfl⟩
theorem within_yes (n a b : Int) (w : World) (h1 : a ≤ n) (h2 : n ≤ b) : Calls Tryz.prog 84 #[.int .i64 n, .int .i64 a, .int .i64 b] w fun e w' => e = .returned (.bool true) ∧ w' = w := by
  have h := within_any n a b w
  rw [decide_eq_true ⟨h1, h2⟩] at h
  exact h
theorem within_no (n a b : Int) (w : World) (h1 : ¬ (a ≤ n ∧ n ≤ b)) : Calls Tryz.prog 84 #[.int .i64 n, .int .i64 a, .int .i64 b] w fun e w' => e = .returned (.bool false) ∧ w' = w := by
  have h := within_any n a b w
  rw [decide_eq_false h1] at h
  exact h
theorem fields25 : Tryz.prog.fieldsOf 38 = #[{ name := "Kind", type := 3, offset := 0, embedded := false, tag := "", pkgPath := "", byteOffset := 0 },
        { name := "Links", type := 3, offset := 1, embedded := false, tag := "", pkgPath := "", byteOffset := 8 },
        { name := "Size", type := 3, offset := 2, embedded := false, tag := "", pkgPath := "", byteOffset := 16 },
        { name := "Version", type := 35, offset := 3, embedded := false, tag := "", pkgPath := "", byteOffset := 24 },
        { name := "Direct", type := 36, offset := 4, embedded := false, tag := "", pkgPath := "", byteOffset := 32 },
        { name := "More", type := 3, offset := 9, embedded := false, tag := "", pkgPath := "", byteOffset := 72 }] := by kernel_rfl

theorem eq_five (d0 d1 d2 d3 d4 e0 e1 e2 e3 e4 : Int) (w : World) :
    (Op.equalIn 9999 36 (.agg #[.int .i64 d0, .int .i64 d1, .int .i64 d2, .int .i64 d3, .int .i64 d4]) (.agg #[.int .i64 e0, .int .i64 e1, .int .i64 e2, .int .i64 e3, .int .i64 e4])).run Tryz.prog w = .ok (decide (d0 = e0 ∧ d1 = e1 ∧ d2 = e2 ∧ d3 = e3 ∧ d4 = e4)) w := by
  obtain ⟨i3, h3, c3⟩ := some_info info3
  rw [run_equalIn_array w 9998 _ _ Tryz.underlying36 h3, c3]
  simp [Op.eqItems, List.range_succ, go_sem]
  by_cases q0 : d0 = e0
  · by_cases q1 : d1 = e1
    · by_cases q2 : d2 = e2
      · by_cases q3 : d3 = e3
        · by_cases q4 : d4 = e4
          · simp [q0, q1, q2, q3, q4]
          · simp [q0, q1, q2, q3, q4]
        · simp [q0, q1, q2, q3]
      · simp [q0, q1, q2]
    · simp [q0, q1]
  · simp [q0]
theorem eq_card (k l s v d0 d1 d2 d3 d4 m k' l' s' v' e0 e1 e2 e3 e4 m' : Int) (w : World) :
    (Op.equalIn 10000 38 (.agg #[.int .i64 k, .int .i64 l, .int .i64 s, .int .u64 v, .int .i64 d0, .int .i64 d1, .int .i64 d2, .int .i64 d3, .int .i64 d4, .int .i64 m]) (.agg #[.int .i64 k', .int .i64 l', .int .i64 s', .int .u64 v', .int .i64 e0, .int .i64 e1, .int .i64 e2, .int .i64 e3, .int .i64 e4, .int .i64 m'])).run Tryz.prog w
      = .ok (decide (k = k' ∧ l = l' ∧ s = s' ∧ v = v' ∧ (d0 = e0 ∧ d1 = e1 ∧ d2 = e2 ∧ d3 = e3 ∧ d4 = e4) ∧ m = m')) w := by
  have hp : Tryz.prog.stoodInHeld 38 = false := by kernel_rfl
  have h5 := eq_five d0 d1 d2 d3 d4 e0 e1 e2 e3 e4 w
  obtain ⟨b, hb⟩ : ∃ b, decide (d0 = e0 ∧ d1 = e1 ∧ d2 = e2 ∧ d3 = e3 ∧ d4 = e4) = b := ⟨_, rfl⟩
  rw [hb] at h5
  have hq : (d0 = e0 ∧ d1 = e1 ∧ d2 = e2 ∧ d3 = e3 ∧ d4 = e4) ↔ b = true := by rw [← hb, decide_eq_true_eq]
  have hD : decide (k = k' ∧ l = l' ∧ s = s' ∧ v = v' ∧ (d0 = e0 ∧ d1 = e1 ∧ d2 = e2 ∧ d3 = e3 ∧ d4 = e4) ∧ m = m') = decide (k = k' ∧ l = l' ∧ s = s' ∧ v = v' ∧ b = true ∧ m = m') := decide_eq_decide.2 (by rw [hq])
  rw [hD]
  clear hD hb hq
  rw [run_equalIn_struct w 9999 38 _ _ (by rw [fields25]; exact Tryz.underlying38) hp, fields25]
  simp [Op.eqFields, go_sem, h5]
  by_cases q0 : k = k'
  · by_cases q1 : l = l'
    · by_cases q2 : s = s'
      · by_cases q3 : v = v'
        · cases b
          · simp [q0, q1, q2, q3]
          · by_cases q5 : m = m'
            · simp [q0, q1, q2, q3, q5]
            · simp [q0, q1, q2, q3, q5]
        · simp [q0, q1, q2, q3]
      · simp [q0, q1, q2]
    · simp [q0, q1]
  · simp [q0]
theorem eq_words (a0 a1 a2 a3 a4 a5 a6 a7 b0 b1 b2 b3 b4 b5 b6 b7 : Int) (w : World) :
    (Op.equalIn 10000 100 (.agg #[.int .u64 a0, .int .u64 a1, .int .u64 a2, .int .u64 a3, .int .u64 a4, .int .u64 a5, .int .u64 a6, .int .u64 a7]) (.agg #[.int .u64 b0, .int .u64 b1, .int .u64 b2, .int .u64 b3, .int .u64 b4, .int .u64 b5, .int .u64 b6, .int .u64 b7])).run Tryz.prog w
      = .ok (decide (a0 = b0 ∧ a1 = b1 ∧ a2 = b2 ∧ a3 = b3 ∧ a4 = b4 ∧ a5 = b5 ∧ a6 = b6 ∧ a7 = b7)) w := by
  obtain ⟨i3, h3, c3⟩ := some_info info22
  rw [run_equalIn_array w 9999 _ _ Tryz.underlying100 h3, c3]
  simp [Op.eqItems, List.range_succ, go_sem]
  by_cases q0 : a0 = b0
  · by_cases q1 : a1 = b1
    · by_cases q2 : a2 = b2
      · by_cases q3 : a3 = b3
        · by_cases q4 : a4 = b4
          · by_cases q5 : a5 = b5
            · by_cases q6 : a6 = b6
              · by_cases q7 : a7 = b7
                · simp [q0, q1, q2, q3, q4, q5, q6, q7]
                · simp [q0, q1, q2, q3, q4, q5, q6, q7]
              · simp [q0, q1, q2, q3, q4, q5, q6]
            · simp [q0, q1, q2, q3, q4, q5]
          · simp [q0, q1, q2, q3, q4]
        · simp [q0, q1, q2, q3]
      · simp [q0, q1, q2]
    · simp [q0, q1]
  · simp [q0]

theorem index6 (d0 d1 d2 d3 d4 m : Int) :
    (∀ w, (Instr.index 110 (.agg #[.int .i64 d0, .int .i64 d1, .int .i64 d2, .int .i64 d3, .int .i64 d4, .int .i64 m]) (.int .i64 0)).run Tryz.prog w = .ok (.int .i64 d0) w)
    ∧ (∀ w, (Instr.index 110 (.agg #[.int .i64 d0, .int .i64 d1, .int .i64 d2, .int .i64 d3, .int .i64 d4, .int .i64 m]) (.int .i64 1)).run Tryz.prog w = .ok (.int .i64 d1) w)
    ∧ (∀ w, (Instr.index 110 (.agg #[.int .i64 d0, .int .i64 d1, .int .i64 d2, .int .i64 d3, .int .i64 d4, .int .i64 m]) (.int .i64 2)).run Tryz.prog w = .ok (.int .i64 d2) w)
    ∧ (∀ w, (Instr.index 110 (.agg #[.int .i64 d0, .int .i64 d1, .int .i64 d2, .int .i64 d3, .int .i64 d4, .int .i64 m]) (.int .i64 3)).run Tryz.prog w = .ok (.int .i64 d3) w)
    ∧ (∀ w, (Instr.index 110 (.agg #[.int .i64 d0, .int .i64 d1, .int .i64 d2, .int .i64 d3, .int .i64 d4, .int .i64 m]) (.int .i64 4)).run Tryz.prog w = .ok (.int .i64 d4) w)
    ∧ (∀ w, (Instr.index 110 (.agg #[.int .i64 d0, .int .i64 d1, .int .i64 d2, .int .i64 d3, .int .i64 d4, .int .i64 m]) (.int .i64 5)).run Tryz.prog w = .ok (.int .i64 m) w) := by
  refine ⟨fun _ => ?_, fun _ => ?_, fun _ => ?_, fun _ => ?_, fun _ => ?_, fun _ => ?_⟩ <;> kernel_rfl

set_option maxHeartbeats 1000000 in
theorem blocksRight_0 (d0 d1 d2 d3 d4 m : Int) (w : World)  (h0 : ¬ (-1 ≤ d0 ∧ d0 ≤ 95)) :
    Calls Tryz.prog 85 #[.agg #[.int .i64 d0, .int .i64 d1, .int .i64 d2, .int .i64 d3, .int .i64 d4, .int .i64 m]] w fun e w' => e = .returned (.bool false) ∧ Below w.heap.size w w' := by
  obtain ⟨i0, i1, i2, i3, i4, i5⟩ := index6 d0 d1 d2 d3 d4 m
  have K0 : Hid (¬ (-1 ≤ d0 ∧ d0 ≤ 95)) := h0
  clear h0
  go_enter Tryz.func85, Tryz.ntmps85
  go_wp2
  refine wp_loop_rounds 7 ?_
  rw [rounds_succ]
  go_wp2_with (go_at_call 84; refine (within_no _ _ _ _ K0.out).mono ?_; rintro e w' ⟨rfl, rfl⟩)
  go_ret
  exact ⟨rfl, (Below.refl _ _).alloc (Nat.le_refl _) _⟩
set_option maxHeartbeats 1000000 in
theorem blocksRight_1 (d0 d1 d2 d3 d4 m : Int) (w : World) (h0 : -1 ≤ d0 ∧ d0 ≤ 95) (h1 : ¬ (-1 ≤ d1 ∧ d1 ≤ 95)) :
    Calls Tryz.prog 85 #[.agg #[.int .i64 d0, .int .i64 d1, .int .i64 d2, .int .i64 d3, .int .i64 d4, .int .i64 m]] w fun e w' => e = .returned (.bool false) ∧ Below w.heap.size w w' := by
  obtain ⟨i0, i1, i2, i3, i4, i5⟩ := index6 d0 d1 d2 d3 d4 m
  have K0 : Hid ((-1 ≤ d0 ∧ d0 ≤ 95)) := h0
  clear h0
  have K1 : Hid (¬ (-1 ≤ d1 ∧ d1 ≤ 95)) := h1
  clear h1
  go_enter Tryz.func85, Tryz.ntmps85
  go_wp2
  refine wp_loop_rounds 7 ?_
  rw [rounds_succ]
  go_wp2_with (go_at_call 84; refine (within_yes _ _ _ _ K0.out.1 K0.out.2).mono ?_; rintro e w' ⟨rfl, rfl⟩)
  rw [rounds_succ]
  go_wp2_with (go_at_call 84; refine (within_no _ _ _ _ K1.out).mono ?_; rintro e w' ⟨rfl, rfl⟩)
  go_ret
  exact ⟨rfl, (Below.refl _ _).alloc (Nat.le_refl _) _⟩
set_option maxHeartbeats 1000000 in
theorem blocksRight_2 (d0 d1 d2 d3 d4 m : Int) (w : World) (h0 : -1 ≤ d0 ∧ d0 ≤ 95) (h1 : -1 ≤ d1 ∧ d1 ≤ 95) (h2 : ¬ (-1 ≤ d2 ∧ d2 ≤ 95)) :
    Calls Tryz.prog 85 #[.agg #[.int .i64 d0, .int .i64 d1, .int .i64 d2, .int .i64 d3, .int .i64 d4, .int .i64 m]] w fun e w' => e = .returned (.bool false) ∧ Below w.heap.size w w' := by
  obtain ⟨i0, i1, i2, i3, i4, i5⟩ := index6 d0 d1 d2 d3 d4 m
  have K0 : Hid ((-1 ≤ d0 ∧ d0 ≤ 95)) := h0
  clear h0
  have K1 : Hid ((-1 ≤ d1 ∧ d1 ≤ 95)) := h1
  clear h1
  have K2 : Hid (¬ (-1 ≤ d2 ∧ d2 ≤ 95)) := h2
  clear h2
  go_enter Tryz.func85, Tryz.ntmps85
  go_wp2
  refine wp_loop_rounds 7 ?_
  rw [rounds_succ]
  go_wp2_with (go_at_call 84; refine (within_yes _ _ _ _ K0.out.1 K0.out.2).mono ?_; rintro e w' ⟨rfl, rfl⟩)
  rw [rounds_succ]
  go_wp2_with (go_at_call 84; refine (within_yes _ _ _ _ K1.out.1 K1.out.2).mono ?_; rintro e w' ⟨rfl, rfl⟩)
  rw [rounds_succ]
  go_wp2_with (go_at_call 84; refine (within_no _ _ _ _ K2.out).mono ?_; rintro e w' ⟨rfl, rfl⟩)
  go_ret
  exact ⟨rfl, (Below.refl _ _).alloc (Nat.le_refl _) _⟩
set_option maxHeartbeats 1000000 in
theorem blocksRight_3 (d0 d1 d2 d3 d4 m : Int) (w : World) (h0 : -1 ≤ d0 ∧ d0 ≤ 95) (h1 : -1 ≤ d1 ∧ d1 ≤ 95) (h2 : -1 ≤ d2 ∧ d2 ≤ 95) (h3 : ¬ (-1 ≤ d3 ∧ d3 ≤ 95)) :
    Calls Tryz.prog 85 #[.agg #[.int .i64 d0, .int .i64 d1, .int .i64 d2, .int .i64 d3, .int .i64 d4, .int .i64 m]] w fun e w' => e = .returned (.bool false) ∧ Below w.heap.size w w' := by
  obtain ⟨i0, i1, i2, i3, i4, i5⟩ := index6 d0 d1 d2 d3 d4 m
  have K0 : Hid ((-1 ≤ d0 ∧ d0 ≤ 95)) := h0
  clear h0
  have K1 : Hid ((-1 ≤ d1 ∧ d1 ≤ 95)) := h1
  clear h1
  have K2 : Hid ((-1 ≤ d2 ∧ d2 ≤ 95)) := h2
  clear h2
  have K3 : Hid (¬ (-1 ≤ d3 ∧ d3 ≤ 95)) := h3
  clear h3
  go_enter Tryz.func85, Tryz.ntmps85
  go_wp2
  refine wp_loop_rounds 7 ?_
  rw [rounds_succ]
  go_wp2_with (go_at_call 84; refine (within_yes _ _ _ _ K0.out.1 K0.out.2).mono ?_; rintro e w' ⟨rfl, rfl⟩)
  rw [rounds_succ]
  go_wp2_with (go_at_call 84; refine (within_yes _ _ _ _ K1.out.1 K1.out.2).mono ?_; rintro e w' ⟨rfl, rfl⟩)
  rw [rounds_succ]
  go_wp2_with (go_at_call 84; refine (within_yes _ _ _ _ K2.out.1 K2.out.2).mono ?_; rintro e w' ⟨rfl, rfl⟩)
  rw [rounds_succ]
  go_wp2_with (go_at_call 84; refine (within_no _ _ _ _ K3.out).mono ?_; rintro e w' ⟨rfl, rfl⟩)
  go_ret
  exact ⟨rfl, (Below.refl _ _).alloc (Nat.le_refl _) _⟩
set_option maxHeartbeats 1000000 in
theorem blocksRight_4 (d0 d1 d2 d3 d4 m : Int) (w : World) (h0 : -1 ≤ d0 ∧ d0 ≤ 95) (h1 : -1 ≤ d1 ∧ d1 ≤ 95) (h2 : -1 ≤ d2 ∧ d2 ≤ 95) (h3 : -1 ≤ d3 ∧ d3 ≤ 95) (h4 : ¬ (-1 ≤ d4 ∧ d4 ≤ 95)) :
    Calls Tryz.prog 85 #[.agg #[.int .i64 d0, .int .i64 d1, .int .i64 d2, .int .i64 d3, .int .i64 d4, .int .i64 m]] w fun e w' => e = .returned (.bool false) ∧ Below w.heap.size w w' := by
  obtain ⟨i0, i1, i2, i3, i4, i5⟩ := index6 d0 d1 d2 d3 d4 m
  have K0 : Hid ((-1 ≤ d0 ∧ d0 ≤ 95)) := h0
  clear h0
  have K1 : Hid ((-1 ≤ d1 ∧ d1 ≤ 95)) := h1
  clear h1
  have K2 : Hid ((-1 ≤ d2 ∧ d2 ≤ 95)) := h2
  clear h2
  have K3 : Hid ((-1 ≤ d3 ∧ d3 ≤ 95)) := h3
  clear h3
  have K4 : Hid (¬ (-1 ≤ d4 ∧ d4 ≤ 95)) := h4
  clear h4
  go_enter Tryz.func85, Tryz.ntmps85
  go_wp2
  refine wp_loop_rounds 7 ?_
  rw [rounds_succ]
  go_wp2_with (go_at_call 84; refine (within_yes _ _ _ _ K0.out.1 K0.out.2).mono ?_; rintro e w' ⟨rfl, rfl⟩)
  rw [rounds_succ]
  go_wp2_with (go_at_call 84; refine (within_yes _ _ _ _ K1.out.1 K1.out.2).mono ?_; rintro e w' ⟨rfl, rfl⟩)
  rw [rounds_succ]
  go_wp2_with (go_at_call 84; refine (within_yes _ _ _ _ K2.out.1 K2.out.2).mono ?_; rintro e w' ⟨rfl, rfl⟩)
  rw [rounds_succ]
  go_wp2_with (go_at_call 84; refine (within_yes _ _ _ _ K3.out.1 K3.out.2).mono ?_; rintro e w' ⟨rfl, rfl⟩)
  rw [rounds_succ]
  go_wp2_with (go_at_call 84; refine (within_no _ _ _ _ K4.out).mono ?_; rintro e w' ⟨rfl, rfl⟩)
  go_ret
  exact ⟨rfl, (Below.refl _ _).alloc (Nat.le_refl _) _⟩
set_option maxHeartbeats 1000000 in
theorem blocksRight_5 (d0 d1 d2 d3 d4 m : Int) (w : World) (h0 : -1 ≤ d0 ∧ d0 ≤ 95) (h1 : -1 ≤ d1 ∧ d1 ≤ 95) (h2 : -1 ≤ d2 ∧ d2 ≤ 95) (h3 : -1 ≤ d3 ∧ d3 ≤ 95) (h4 : -1 ≤ d4 ∧ d4 ≤ 95) (h5 : ¬ (-1 ≤ m ∧ m ≤ 95)) :
    Calls Tryz.prog 85 #[.agg #[.int .i64 d0, .int .i64 d1, .int .i64 d2, .int .i64 d3, .int .i64 d4, .int .i64 m]] w fun e w' => e = .returned (.bool false) ∧ Below w.heap.size w w' := by
  obtain ⟨i0, i1, i2, i3, i4, i5⟩ := index6 d0 d1 d2 d3 d4 m
  have K0 : Hid ((-1 ≤ d0 ∧ d0 ≤ 95)) := h0
  clear h0
  have K1 : Hid ((-1 ≤ d1 ∧ d1 ≤ 95)) := h1
  clear h1
  have K2 : Hid ((-1 ≤ d2 ∧ d2 ≤ 95)) := h2
  clear h2
  have K3 : Hid ((-1 ≤ d3 ∧ d3 ≤ 95)) := h3
  clear h3
  have K4 : Hid ((-1 ≤ d4 ∧ d4 ≤ 95)) := h4
  clear h4
  have K5 : Hid (¬ (-1 ≤ m ∧ m ≤ 95)) := h5
  clear h5
  go_enter Tryz.func85, Tryz.ntmps85
  go_wp2
  refine wp_loop_rounds 7 ?_
  rw [rounds_succ]
  go_wp2_with (go_at_call 84; refine (within_yes _ _ _ _ K0.out.1 K0.out.2).mono ?_; rintro e w' ⟨rfl, rfl⟩)
  rw [rounds_succ]
  go_wp2_with (go_at_call 84; refine (within_yes _ _ _ _ K1.out.1 K1.out.2).mono ?_; rintro e w' ⟨rfl, rfl⟩)
  rw [rounds_succ]
  go_wp2_with (go_at_call 84; refine (within_yes _ _ _ _ K2.out.1 K2.out.2).mono ?_; rintro e w' ⟨rfl, rfl⟩)
  rw [rounds_succ]
  go_wp2_with (go_at_call 84; refine (within_yes _ _ _ _ K3.out.1 K3.out.2).mono ?_; rintro e w' ⟨rfl, rfl⟩)
  rw [rounds_succ]
  go_wp2_with (go_at_call 84; refine (within_yes _ _ _ _ K4.out.1 K4.out.2).mono ?_; rintro e w' ⟨rfl, rfl⟩)
  rw [rounds_succ]
  go_wp2_with (go_at_call 84; refine (within_no _ _ _ _ K5.out).mono ?_; rintro e w' ⟨rfl, rfl⟩)
  go_ret
  exact ⟨rfl, (Below.refl _ _).alloc (Nat.le_refl _) _⟩
set_option maxHeartbeats 1000000 in
theorem blocksRight_6 (d0 d1 d2 d3 d4 m : Int) (w : World) (h0 : -1 ≤ d0 ∧ d0 ≤ 95) (h1 : -1 ≤ d1 ∧ d1 ≤ 95) (h2 : -1 ≤ d2 ∧ d2 ≤ 95) (h3 : -1 ≤ d3 ∧ d3 ≤ 95) (h4 : -1 ≤ d4 ∧ d4 ≤ 95) (h5 : -1 ≤ m ∧ m ≤ 95) :
    Calls Tryz.prog 85 #[.agg #[.int .i64 d0, .int .i64 d1, .int .i64 d2, .int .i64 d3, .int .i64 d4, .int .i64 m]] w fun e w' => e = .returned (.bool true) ∧ Below w.heap.size w w' := by
  obtain ⟨i0, i1, i2, i3, i4, i5⟩ := index6 d0 d1 d2 d3 d4 m
  have K0 : Hid ((-1 ≤ d0 ∧ d0 ≤ 95)) := h0
  clear h0
  have K1 : Hid ((-1 ≤ d1 ∧ d1 ≤ 95)) := h1
  clear h1
  have K2 : Hid ((-1 ≤ d2 ∧ d2 ≤ 95)) := h2
  clear h2
  have K3 : Hid ((-1 ≤ d3 ∧ d3 ≤ 95)) := h3
  clear h3
  have K4 : Hid ((-1 ≤ d4 ∧ d4 ≤ 95)) := h4
  clear h4
  have K5 : Hid ((-1 ≤ m ∧ m ≤ 95)) := h5
  clear h5
  go_enter Tryz.func85, Tryz.ntmps85
  go_wp2
  refine wp_loop_rounds 7 ?_
  rw [rounds_succ]
  go_wp2_with (go_at_call 84; refine (within_yes _ _ _ _ K0.out.1 K0.out.2).mono ?_; rintro e w' ⟨rfl, rfl⟩)
  rw [rounds_succ]
  go_wp2_with (go_at_call 84; refine (within_yes _ _ _ _ K1.out.1 K1.out.2).mono ?_; rintro e w' ⟨rfl, rfl⟩)
  rw [rounds_succ]
  go_wp2_with (go_at_call 84; refine (within_yes _ _ _ _ K2.out.1 K2.out.2).mono ?_; rintro e w' ⟨rfl, rfl⟩)
  rw [rounds_succ]
  go_wp2_with (go_at_call 84; refine (within_yes _ _ _ _ K3.out.1 K3.out.2).mono ?_; rintro e w' ⟨rfl, rfl⟩)
  rw [rounds_succ]
  go_wp2_with (go_at_call 84; refine (within_yes _ _ _ _ K4.out.1 K4.out.2).mono ?_; rintro e w' ⟨rfl, rfl⟩)
  rw [rounds_succ]
  go_wp2_with (go_at_call 84; refine (within_yes _ _ _ _ K5.out.1 K5.out.2).mono ?_; rintro e w' ⟨rfl, rfl⟩)
  rw [rounds_succ]
  go_wp2
  go_ret
  exact ⟨rfl, (Below.refl _ _).alloc (Nat.le_refl _) _⟩

/-- Each is a block or none. -/
def Bk (d0 d1 d2 d3 d4 m : Int) : Prop := (-1 ≤ d0 ∧ d0 ≤ 95) ∧ (-1 ≤ d1 ∧ d1 ≤ 95) ∧ (-1 ≤ d2 ∧ d2 ≤ 95) ∧ (-1 ≤ d3 ∧ d3 ≤ 95) ∧ (-1 ≤ d4 ∧ d4 ≤ 95) ∧ (-1 ≤ m ∧ m ≤ 95)
theorem blocksRight_yes (d0 d1 d2 d3 d4 m : Int) (w : World) (h : Bk d0 d1 d2 d3 d4 m) :
    Calls Tryz.prog 85 #[.agg #[.int .i64 d0, .int .i64 d1, .int .i64 d2, .int .i64 d3, .int .i64 d4, .int .i64 m]] w fun e w' => e = .returned (.bool true) ∧ Below w.heap.size w w' :=
  blocksRight_6 d0 d1 d2 d3 d4 m w h.1 h.2.1 h.2.2.1 h.2.2.2.1 h.2.2.2.2.1 h.2.2.2.2.2
theorem blocksRight_no (d0 d1 d2 d3 d4 m : Int) (w : World) (h : ¬ Bk d0 d1 d2 d3 d4 m) :
    Calls Tryz.prog 85 #[.agg #[.int .i64 d0, .int .i64 d1, .int .i64 d2, .int .i64 d3, .int .i64 d4, .int .i64 m]] w fun e w' => e = .returned (.bool false) ∧ Below w.heap.size w w' := by
  by_cases h0 : -1 ≤ d0 ∧ d0 ≤ 95
  · by_cases h1 : -1 ≤ d1 ∧ d1 ≤ 95
    · by_cases h2 : -1 ≤ d2 ∧ d2 ≤ 95
      · by_cases h3 : -1 ≤ d3 ∧ d3 ≤ 95
        · by_cases h4 : -1 ≤ d4 ∧ d4 ≤ 95
          · exact blocksRight_5 d0 d1 d2 d3 d4 m w h0 h1 h2 h3 h4 fun h5 => h ⟨h0, h1, h2, h3, h4, h5⟩
          · exact blocksRight_4 d0 d1 d2 d3 d4 m w h0 h1 h2 h3 h4
        · exact blocksRight_3 d0 d1 d2 d3 d4 m w h0 h1 h2 h3
      · exact blocksRight_2 d0 d1 d2 d3 d4 m w h0 h1 h2
    · exact blocksRight_1 d0 d1 d2 d3 d4 m w h0 h1
  · exact blocksRight_0 d0 d1 d2 d3 d4 m w h0

end Go.Proofs.YtomlbifplliakaaGreat.Cd
