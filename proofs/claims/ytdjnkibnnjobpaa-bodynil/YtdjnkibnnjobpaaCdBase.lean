/- Contracts of the package's small functions on cards (no file's card, blocks, within, is it a file's kind) and of fields of words, for every card and number; what lay in memory before stays. -/
import Derived.Test.YtdjnkibnnjobpaaProg
import Derived.Test.YtdjnkibnnjobpaaCdMath
import Derived.WalkKit
import Derived.WalkLawsBesides
import Derived.Laws.StructEq
import Derived.Laws.IdiomCopy
import Derived.ChangeKeysEq
import Derived.Handy
import Derived.BigQuiet
namespace Go.Proofs.Ytdjnkibnnjobpaa.Cd
open Go.RowKit

theorem ret_bool {a b : Bool} (h : a = b) : Ending.returned (.bool a) = .returned (.bool b) := by rw [h]
theorem ret_int {k : IntKind} {a b : Int} (h : a = b) : Ending.returned (.int k a) = .returned (.int k b) := by rw [h]
theorem ret_pair {k l : IntKind} {a b : Int} {c : Int} (h : a = b) : Ending.returned (.tuple #[.int k a, .int l c]) = .returned (.tuple #[.int k b, .int l c]) := by rw [h]

/-- The block g holds a card. -/
def Ten (w : World) (g : Nat) (k l s v d0 d1 d2 d3 d4 m : Int) : Prop := w.cell? ⟨g, 0, none⟩ = some (.int .i64 k) ∧ w.cell? ⟨g, 1, none⟩ = some (.int .i64 l) ∧ w.cell? ⟨g, 2, none⟩ = some (.int .i64 s) ∧ w.cell? ⟨g, 3, none⟩ = some (.int .u64 v) ∧ w.cell? ⟨g, 4, none⟩ = some (.int .i64 d0) ∧ w.cell? ⟨g, 5, none⟩ = some (.int .i64 d1) ∧ w.cell? ⟨g, 6, none⟩ = some (.int .i64 d2) ∧ w.cell? ⟨g, 7, none⟩ = some (.int .i64 d3) ∧ w.cell? ⟨g, 8, none⟩ = some (.int .i64 d4) ∧ w.cell? ⟨g, 9, none⟩ = some (.int .i64 m)
theorem Ten.later {w w' : World} {g : Nat} {k l s v d0 d1 d2 d3 d4 m : Int} (h : Ten w g k l s v d0 d1 d2 d3 d4 m) {B : Nat} (hg : g < B) (hb : Below B w w') : Ten w' g k l s v d0 d1 d2 d3 d4 m := by
  unfold Ten at h ⊢
  have e : ∀ o, w'.cell? ⟨g, o, none⟩ = w.cell? ⟨g, o, none⟩ := fun o => hb.cell (p := ⟨g, o, none⟩) hg
  simp only [e]
  exact h
theorem ten_alloc (w : World) (k l s v d0 d1 d2 d3 d4 m : Int) : Ten (w.alloc (.cells #[.int .i64 k, .int .i64 l, .int .i64 s, .int .u64 v, .int .i64 d0, .int .i64 d1, .int .i64 d2, .int .i64 d3, .int .i64 d4, .int .i64 m] 26)) w.heap.size k l s v d0 d1 d2 d3 d4 m := by
  unfold Ten
  simp [go_sem]
/-- A world with a card in its newest block: the card stays there, and what was below stays. -/
theorem new_card (w : World) (k l s v d0 d1 d2 d3 d4 m : Int) : ∃ W : World, w.alloc (.cells #[.int .i64 k, .int .i64 l, .int .i64 s, .int .u64 v, .int .i64 d0, .int .i64 d1, .int .i64 d2, .int .i64 d3, .int .i64 d4, .int .i64 m] 26) = W ∧ Hid (W.heap.size = w.heap.size + 1) ∧ Hid (∀ v', Below W.heap.size W v' → Below w.heap.size w v') ∧ Hid (∀ v', Below W.heap.size W v' → v'.cell? ⟨w.heap.size, 0, none⟩ = some (.int .i64 k) ∧ v'.cell? ⟨w.heap.size, 1, none⟩ = some (.int .i64 l) ∧ v'.cell? ⟨w.heap.size, 2, none⟩ = some (.int .i64 s) ∧ v'.cell? ⟨w.heap.size, 3, none⟩ = some (.int .u64 v) ∧ v'.cell? ⟨w.heap.size, 4, none⟩ = some (.int .i64 d0) ∧ v'.cell? ⟨w.heap.size, 5, none⟩ = some (.int .i64 d1) ∧ v'.cell? ⟨w.heap.size, 6, none⟩ = some (.int .i64 d2) ∧ v'.cell? ⟨w.heap.size, 7, none⟩ = some (.int .i64 d3) ∧ v'.cell? ⟨w.heap.size, 8, none⟩ = some (.int .i64 d4) ∧ v'.cell? ⟨w.heap.size, 9, none⟩ = some (.int .i64 m)) := by
  refine ⟨_, rfl, ?_, fun v' h => ?_, fun v' h => (ten_alloc w k l s v d0 d1 d2 d3 d4 m).later (by simp) h⟩
  · show _ = _
    simp
  · exact ((Below.refl _ _).alloc (Nat.le_refl _) _).trans (h.mono (by simp))

theorem info3 : (Try.prog.info? 3).map (·.size) = some 1 := by kernel_rfl
theorem info22 : (Try.prog.info? 23).map (·.size) = some 1 := by kernel_rfl
theorem some_info {t : TypeId} (h : (Try.prog.info? t).map (·.size) = some 1) : ∃ i, Try.prog.info? t = some i ∧ Try.prog.cellsOf t = 1 := by
  cases hq : Try.prog.info? t with
  | none => simp [hq] at h
  | some i =>
    refine ⟨i, rfl, ?_⟩
    simp [hq] at h
    simp [Program.cellsOf, hq, h]

theorem fields25 : Try.prog.fieldsOf 26 = #[{ name := "Kind", type := 3, offset := 0, embedded := false, tag := "", pkgPath := "", byteOffset := 0 },
        { name := "Links", type := 3, offset := 1, embedded := false, tag := "", pkgPath := "", byteOffset := 8 },
        { name := "Size", type := 3, offset := 2, embedded := false, tag := "", pkgPath := "", byteOffset := 16 },
        { name := "Version", type := 23, offset := 3, embedded := false, tag := "", pkgPath := "", byteOffset := 24 },
        { name := "Direct", type := 24, offset := 4, embedded := false, tag := "", pkgPath := "", byteOffset := 32 },
        { name := "More", type := 3, offset := 9, embedded := false, tag := "", pkgPath := "", byteOffset := 72 }] := by kernel_rfl

theorem eq_five (d0 d1 d2 d3 d4 e0 e1 e2 e3 e4 : Int) (w : World) :
    (Op.equalIn 9999 24 (.agg #[.int .i64 d0, .int .i64 d1, .int .i64 d2, .int .i64 d3, .int .i64 d4]) (.agg #[.int .i64 e0, .int .i64 e1, .int .i64 e2, .int .i64 e3, .int .i64 e4])).run Try.prog w = .ok (decide (d0 = e0 ∧ d1 = e1 ∧ d2 = e2 ∧ d3 = e3 ∧ d4 = e4)) w := by
  obtain ⟨i3, h3, c3⟩ := some_info info3
  rw [run_equalIn_array w 9998 _ _ Try.underlying24 h3, c3]
  simp [Op.eqItems, List.range_succ, go_sem]
  by_cases q0 : d0 = e0
  · by_cases q1 : d1 = e1
    · by_cases q2 : d2 = e2
      · by_cases q3 : d3 = e3
        · by_cases q4 : d4 = e4
          · simp [q0, q1, q2, q3, q4]
          · simp [q0, q1, q2, q3, q4]
        · simp [q0, q1, q2, q3]
      · simp [q0, q1, q2]
    · simp [q0, q1]
  · simp [q0]
theorem eq_card (k l s v d0 d1 d2 d3 d4 m k' l' s' v' e0 e1 e2 e3 e4 m' : Int) (w : World) :
    (Op.equalIn 10000 26 (.agg #[.int .i64 k, .int .i64 l, .int .i64 s, .int .u64 v, .int .i64 d0, .int .i64 d1, .int .i64 d2, .int .i64 d3, .int .i64 d4, .int .i64 m]) (.agg #[.int .i64 k', .int .i64 l', .int .i64 s', .int .u64 v', .int .i64 e0, .int .i64 e1, .int .i64 e2, .int .i64 e3, .int .i64 e4, .int .i64 m'])).run Try.prog w
      = .ok (decide (k = k' ∧ l = l' ∧ s = s' ∧ v = v' ∧ (d0 = e0 ∧ d1 = e1 ∧ d2 = e2 ∧ d3 = e3 ∧ d4 = e4) ∧ m = m')) w := by
  have hp : Try.prog.stoodInHeld 26 = false := by kernel_rfl
  have h5 := eq_five d0 d1 d2 d3 d4 e0 e1 e2 e3 e4 w
  obtain ⟨b, hb⟩ : ∃ b, decide (d0 = e0 ∧ d1 = e1 ∧ d2 = e2 ∧ d3 = e3 ∧ d4 = e4) = b := ⟨_, rfl⟩
  rw [hb] at h5
  have hq : (d0 = e0 ∧ d1 = e1 ∧ d2 = e2 ∧ d3 = e3 ∧ d4 = e4) ↔ b = true := by rw [← hb, decide_eq_true_eq]
  have hD : decide (k = k' ∧ l = l' ∧ s = s' ∧ v = v' ∧ (d0 = e0 ∧ d1 = e1 ∧ d2 = e2 ∧ d3 = e3 ∧ d4 = e4) ∧ m = m') = decide (k = k' ∧ l = l' ∧ s = s' ∧ v = v' ∧ b = true ∧ m = m') := decide_eq_decide.2 (by rw [hq])
  rw [hD]
  clear hD hb hq
  rw [run_equalIn_struct w 9999 26 _ _ (by rw [fields25]; exact Try.underlying26) hp, fields25]
  simp [Op.eqFields, go_sem, h5]
  by_cases q0 : k = k'
  · by_cases q1 : l = l'
    · by_cases q2 : s = s'
      · by_cases q3 : v = v'
        · cases b
          · simp [q0, q1, q2, q3]
          · by_cases q5 : m = m'
            · simp [q0, q1, q2, q3, q5]
            · simp [q0, q1, q2, q3, q5]
        · simp [q0, q1, q2, q3]
      · simp [q0, q1, q2]
    · simp [q0, q1]
  · simp [q0]
/-- Each is a block or none. -/
def Bk (d0 d1 d2 d3 d4 m : Int) : Prop := (-1 ≤ d0 ∧ d0 ≤ 95) ∧ (-1 ≤ d1 ∧ d1 ≤ 95) ∧ (-1 ≤ d2 ∧ d2 ≤ 95) ∧ (-1 ≤ d3 ∧ d3 ≤ 95) ∧ (-1 ≤ d4 ∧ d4 ≤ 95) ∧ (-1 ≤ m ∧ m ≤ 95)
end Go.Proofs.Ytdjnkibnnjobpaa.Cd
