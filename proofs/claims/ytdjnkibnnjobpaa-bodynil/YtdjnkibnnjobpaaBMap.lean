/- Sets of places as the program's map of int to bool. -/
import Derived.Test.YtdjnkibnnjobpaaPlA
namespace Go.Proofs.Ytdjnkibnnjobpaa
open Go.RowKit Go.Maps Go.ChangeMaps

theorem zero4 (w : World) : (zeroValue 4).run Try.prog w = .ok (.bool false) w := by kernel_rfl

/-- The datum D holds true at just the places of s. -/
def BReads (D : DataW Unit) (s : Int → Bool) : Prop := ∀ k : Int, D.atKey (.int .i64 k) (.lit (.bool false)) = .lit (.bool (s k))

/-- Block b is a map of at most n entries that holds true at just the places of s. -/
def BMapIs (w : World) (b n : Nat) (s : Int → Bool) : Prop :=
  ∃ D : DataW Unit, w.ownsMap Try.prog 3 (plainElem Try.prog 4) b n D ∧ BReads D s

theorem plainElem_bool_inv {P : Program} {e : TypeId} (he : P.underlying e = some .bool) {v : Value} {z : DataW Unit × List MemPlace} (h : plainElem P e v = some z) : ∃ x, v = .bool x ∧ z = (.lit (.bool x), []) := by
  unfold plainElem at h
  rw [he] at h
  cases v <;> simp at h
  exact ⟨_, rfl, h.symm⟩

theorem BMapIs.run {w : World} {b n : Nat} {s : Int → Bool} (h : BMapIs w b n s) {k : Int} (hwk : (Lit.int .i64 k).wf = true) : (Instr.lookup 66 (.map (some b)) (.int .i64 k) false).run Try.prog w = .ok (.bool (s k)) w := by
  obtain ⟨D, hown, hr⟩ := h
  obtain ⟨v, ps, hrun, hv⟩ := hown.lookup law3 Try.underlying66 (zero4 _) (plainElem_bool Try.underlying4 false) (keyOf_int_mk Try.underlying3 hwk)
  obtain ⟨x, rfl, hx⟩ := plainElem_bool_inv Try.underlying4 hv
  rw [hr k] at hx
  cases hx
  exact hrun

theorem bmade (w : World) : BMapIs (w.alloc (.map #[] 0)) w.heap.size 0 (fun _ => false) := ⟨_, World.ownsMap_made w _ _ _, fun _ => rfl⟩

theorem BMapIs.of_block {w w' : World} {b n : Nat} {s : Int → Bool} (h : BMapIs w b n s) (hb : w'.heap[b]? = w.heap[b]?) : BMapIs w' b n s := by
  obtain ⟨D, ⟨es, c, h1, r⟩, h2⟩ := h
  exact ⟨D, ⟨es, c, hb.trans h1, r⟩, h2⟩

theorem BMapIs.lt {w : World} {b n : Nat} {s : Int → Bool} (h : BMapIs w b n s) : b < w.heap.size := let ⟨_, h1, _⟩ := h; h1.lt

theorem BMapIs.congr {w : World} {b n : Nat} {s t : Int → Bool} (h : BMapIs w b n s) (e : ∀ k, t k = s k) : BMapIs w b n t := by
  obtain ⟨D, h1, h2⟩ := h
  exact ⟨D, h1, fun k => by rw [e k]; exact h2 k⟩

section
variable (w : World) {ops : Array Oper} {rest : List Oper} {o : Oper} {a : Act} {Q : Exit → Act → World → Prop}
theorem wpList_bput (hg : o.guard = none) (m x v : Operand) (hop : o.op = Op.mapUpdate 66 m x v) (b n : Nat) (s : Int → Bool) (k : Int)
    (hm : a.eval m = .map (some b)) (h : BMapIs w b n s) (hn : n < maxLen) (hx : a.eval x = .int .i64 k) (hv : a.eval v = .bool true) (hwk : (Lit.int .i64 k).wf = true)
    (hK : ∀ w', BMapIs w' b (n + 1) (fun j => decide (j = k) || s j) → w.mapTurned w' b → wpList Try.prog ops Q rest (a.put o.dst undef) w') :
    wpList Try.prog ops Q (o :: rest) a w := by
  obtain ⟨D, hown, hr⟩ := h
  refine wpList_mapUpdate_in w hg m x v 66 hop 3 4 law3 Try.underlying66 _ b n D hm hown hn _ _ _ hx hv (keyOf_int_mk Try.underlying3 hwk) _ [] (plainElem_bool Try.underlying4 true) ?_
  intro w1 hown1 hturn
  refine hK w1 ⟨_, hown1, fun j => ?_⟩ hturn
  by_cases e : j = k
  · subst e
    rw [atKey_put_same hown.isMap (k := .int .i64 j) trivial]; simp
  · rw [atKey_put_other (key_ne e), hr j]; simp [e]

end

/-- May a change name the word? -/
abbrev openI (a : Int) : Prop := 8 ≤ a ∧ a < 296 ∨ 1288 ≤ a ∧ a < 2824

theorem openB_iff (a : Int) : openB a = true ↔ openI a := by
  unfold openB openI
  rcases places a with h | h | ⟨h, h'⟩ | ⟨h, h'⟩ | ⟨h, h'⟩ | ⟨h, h'⟩ | ⟨h, h'⟩
  · rw [(ki_neg h).1]; simp; omega
  · rw [(ki_far h).1]; simp; omega
  · rw [(ki_head h h').1]; simp; omega
  · rw [(ki_card h h').1]; simp; omega
  · rw [(ki_owner h h').1]; simp; omega
  · rw [(ki_log h h').1]; simp; omega
  · rw [(ki_data h h').1]; simp; omega

end Go.Proofs.Ytdjnkibnnjobpaa
