/- Maps of int to uint64 told as plain functions, the walk's laws for them (look-up, store, delete, clear), and what it means that a call changes only certain blocks. -/
import Derived.Test.YtdjnkibnnjobpaaMath
import Derived.Test.YtdjnkibnnjobpaaProg
import Derived.Maps.RangeWalk
import Derived.WalkKit
namespace Go.Proofs.Ytdjnkibnnjobpaa
open Go.RowKit Go.Maps Go.ChangeMaps

theorem law3 : Keyed Try.prog 3 := int_keyed Try.underlying3
theorem zero22 (w : World) : (zeroValue 23).run Try.prog w = .ok (.int .u64 0) w := by kernel_rfl

/-- The datum D holds just what f says. -/
def MapReads (D : DataW Unit) (f : Int → Option Int) : Prop :=
  ∀ k : Int, Maps.has D (.int .i64 k) = (f k).isSome ∧ ∀ v, f k = some v → ∀ zd, D.atKey (.int .i64 k) zd = .lit (.int .u64 v)

/-- Block b is a map of at most n entries that holds just what f says. -/
def MapIs (w : World) (b n : Nat) (f : Int → Option Int) : Prop :=
  ∃ D : DataW Unit, w.ownsMap Try.prog 3 (plainElem Try.prog 23) b n D ∧ MapReads D f

theorem key_ne {j k : Int} (h : j ≠ k) : (Lit.int .i64 j) ≠ (Lit.int .i64 k) := fun e => h (by cases e; rfl)

theorem reads_empty : MapReads (.map []) (fun _ => none) := fun _ => ⟨rfl, fun _ h => by cases h⟩

theorem reads_put {D : DataW Unit} {f : Int → Option Int} (h : MapReads D f) (hD : IsMap D) (k v : Int) : MapReads (D.put (.int .i64 k) (.lit (.int .u64 v))) (upd f k (some v)) := by
  intro j
  by_cases e : j = k
  · subst e
    rw [upd_same]
    refine ⟨has_put_same hD (k := .int .i64 j) trivial _, ?_⟩
    intro v' hv zd
    cases hv
    exact atKey_put_same hD (k := .int .i64 j) trivial _ _
  · rw [upd_other _ _ e]
    refine ⟨(has_put_other (key_ne e) _).trans (h j).1, ?_⟩
    intro v' hv zd
    rw [atKey_put_other (key_ne e)]
    exact (h j).2 v' hv zd

theorem reads_del {D : DataW Unit} {f : Int → Option Int} (h : MapReads D f) (k : Int) : MapReads (D.del (.int .i64 k)) (upd f k none) := by
  intro j
  by_cases e : j = k
  · subst e
    rw [upd_same]
    exact ⟨has_del_same, fun v' hv => by cases hv⟩
  · rw [upd_other _ _ e]
    refine ⟨(has_del_other (key_ne e)).trans (h j).1, ?_⟩
    intro v' hv zd
    rw [atKey_del_other (key_ne e)]
    exact (h j).2 v' hv zd

theorem reads_look {D : DataW Unit} {f : Int → Option Int} (h : MapReads D f) (k c : Int) (hat : D.atKey (.int .i64 k) (.lit (.int .u64 0)) = .lit (.int .u64 c)) : c = (f k).getD 0 := by
  obtain ⟨h1, h2⟩ := h k
  cases hf : f k with
  | none =>
    rw [hf] at h1
    rw [atKey_of_not_has h1] at hat
    cases hat; rfl
  | some v =>
    rw [h2 v hf] at hat
    cases hat; rfl

section
variable {w w' : World} {b n : Nat} {f : Int → Option Int}

theorem MapIs.mono (h : MapIs w b n f) {n' : Nat} (hn : n ≤ n') : MapIs w b n' f := let ⟨D, h1, h2⟩ := h; ⟨D, h1.mono hn, h2⟩
theorem MapIs.lt (h : MapIs w b n f) : b < w.heap.size := let ⟨_, h1, _⟩ := h; h1.lt
theorem MapIs.block (h : MapIs w b n f) : ∃ es c, w.heap[b]? = some (.map es c) := let ⟨_, ⟨es, c, hb, _⟩, _⟩ := h; ⟨es, c, hb⟩
theorem MapIs.of_block (h : MapIs w b n f) (hb : w'.heap[b]? = w.heap[b]?) : MapIs w' b n f := by
  obtain ⟨D, ⟨es, c, h1, r⟩, h2⟩ := h
  exact ⟨D, ⟨es, c, hb.trans h1, r⟩, h2⟩
theorem MapIs.congr (h : MapIs w b n f) {g : Int → Option Int} (e : ∀ k, g k = f k) : MapIs w b n g := by
  obtain ⟨D, h1, h2⟩ := h
  exact ⟨D, h1, fun k => by rw [e k]; exact h2 k⟩

/-- What is in the map may be a key, and a word. -/
theorem MapIs.wf (h : MapIs w b n f) {k v : Int} (hk : f k = some v) : (Lit.int .u64 v).wf = true := by
  obtain ⟨D, hown, hr⟩ := h
  obtain ⟨h1, h2⟩ := hr k
  rw [hk] at h1
  obtain ⟨es, hD, _⟩ := hown.entries law3
  obtain ⟨es', clock, hb, F, hs, hD'⟩ := hown
  have hat := h2 v hk (.lit (.int .u64 0))
  rw [hD', Maps.has_eq] at h1
  rw [hD'] at hat
  obtain ⟨p, hp, hpk⟩ := List.any_eq_true.1 h1
  have e0 := hat
  simp only [DataW.atKey] at e0
  cases hfind : List.find? (fun p : Lit × DataW Unit => p.1.sameKey (.int .i64 k)) ((es'.toList.map (WideElems.rg Try.prog 3 (plainElem Try.prog 23))).foldr DataW.insert []) with
  | none =>
    have := List.find?_eq_none.1 hfind p hp
    simp [hpk] at this
  | some q =>
    have hq := List.mem_of_find?_eq_some hfind
    rw [mem_sorted] at hq
    obtain ⟨x, hx, rfl⟩ := List.mem_map.1 hq
    obtain ⟨y, hy⟩ := F.reads x hx
    obtain ⟨z, hz, hz2⟩ := WideElems.rd_val hy
    have hrg : WideElems.rg Try.prog 3 (plainElem Try.prog 23) x = y := by simp [WideElems.rg, hy]
    rw [hfind] at e0
    simp at e0
    rw [hrg] at e0
    obtain ⟨c, _, hc, hwc⟩ := plainElem_int_inv Try.underlying23 hz
    rw [hz2, hc] at e0
    simp at e0
    rw [← e0]; exact hwc
end

section
variable (w : World) {ops : Array Oper} {rest : List Oper} {o : Oper} {a : Act} {Q : Exit → Act → World → Prop}

/-- 'v, ok := m[k]'. -/
theorem wpList_look2 (hg : o.guard = none) (m x : Operand) (hop : o.op = Op.lookup 64 m x true) (b n : Nat) (f : Int → Option Int) (k c : Int) (bb : Bool)
    (hm : a.eval m = .map (some b)) (h : MapIs w b n f) (hx : a.eval x = .int .i64 k) (hwk : (Lit.int .i64 k).wf = true) (hc : (f k).getD 0 = c) (hb : (f k).isSome = bb)
    (hK : wpList Try.prog ops Q rest (a.put o.dst (.tuple #[.int .u64 c, .bool bb])) w) :
    wpList Try.prog ops Q (o :: rest) a w := by
  obtain ⟨D, hown, hr⟩ := h
  refine wpList_lookup_own_ok_int w hg m x 64 hop 3 23 .u64 law3 Try.underlying64 Try.underlying23 (zero22 _) b n D hm hown _ _ hx (keyOf_int_mk Try.underlying3 hwk) ?_
  intro c' hat _
  rw [reads_look hr k c' hat, (hr k).1, hc, hb]
  exact hK

/-- 'm[k]'. -/
theorem wpList_look1 (hg : o.guard = none) (m x : Operand) (hop : o.op = Op.lookup 64 m x false) (b n : Nat) (f : Int → Option Int) (k c : Int)
    (hm : a.eval m = .map (some b)) (h : MapIs w b n f) (hx : a.eval x = .int .i64 k) (hwk : (Lit.int .i64 k).wf = true) (hc : (f k).getD 0 = c)
    (hK : wpList Try.prog ops Q rest (a.put o.dst (.int .u64 c)) w) :
    wpList Try.prog ops Q (o :: rest) a w := by
  obtain ⟨D, hown, hr⟩ := h
  refine wpList_lookup_own_int w hg m x 64 hop 3 23 .u64 law3 Try.underlying64 Try.underlying23 (zero22 _) b n D hm hown _ _ hx (keyOf_int_mk Try.underlying3 hwk) ?_
  intro c' hat _
  rw [reads_look hr k c' hat, hc]
  exact hK

/-- 'm[k] = v'. -/
theorem wpList_put (hg : o.guard = none) (m x v : Operand) (hop : o.op = Op.mapUpdate 64 m x v) (b n : Nat) (f : Int → Option Int) (k c : Int)
    (hm : a.eval m = .map (some b)) (h : MapIs w b n f) (hn : n < maxLen) (hx : a.eval x = .int .i64 k) (hv : a.eval v = .int .u64 c) (hwk : (Lit.int .i64 k).wf = true) (hwc : (Lit.int .u64 c).wf = true)
    (hK : ∀ w', MapIs w' b (n + 1) (upd f k (some c)) → w.mapTurned w' b → wpList Try.prog ops Q rest (a.put o.dst undef) w') :
    wpList Try.prog ops Q (o :: rest) a w := by
  obtain ⟨D, hown, hr⟩ := h
  refine wpList_mapUpdate_in w hg m x v 64 hop 3 23 law3 Try.underlying64 _ b n D hm hown hn _ _ _ hx hv (keyOf_int_mk Try.underlying3 hwk) _ [] (plainElem_int Try.underlying23 hwc) ?_
  intro w1 hown1 hturn
  exact hK w1 ⟨_, hown1, reads_put hr hown.isMap k c⟩ hturn

/-- 'delete(m, k)'. -/
theorem wpList_del (hg : o.guard = none) (m x : Operand) (hop : o.op = Op.call { callee := Callee.builtin Builtin.delete, args := #[m, x], argTypes := #[64, 3] }) (b n : Nat) (f : Int → Option Int) (k : Int)
    (hm : a.eval m = .map (some b)) (h : MapIs w b n f) (hx : a.eval x = .int .i64 k) (hwk : (Lit.int .i64 k).wf = true)
    (hK : ∀ w', MapIs w' b n (upd f k none) → w.mapTurned w' b → wpList Try.prog ops Q rest (a.put o.dst (.tuple #[])) w') :
    wpList Try.prog ops Q (o :: rest) a w := by
  obtain ⟨D, hown, hr⟩ := h
  refine wpList_delete_own w hg m x 64 3 hop 23 law3 Try.underlying64 _ b n D hm hown _ _ hx (keyOf_int_mk Try.underlying3 hwk) ?_
  intro w1 hown1 hturn
  exact hK w1 ⟨_, hown1, reads_del hr k⟩ hturn

theorem fit_empty (clock : Nat) : WideElems.Fit (H := Unit) Try.prog 3 (plainElem Try.prog 23) #[] clock :=
  ⟨by simp, MapKept.stamped_empty _, by simp⟩

/-- 'clear(m)'. -/
theorem wpList_clear (hg : o.guard = none) (m : Operand) (hop : o.op = Op.call { callee := Callee.builtin Builtin.clear, args := #[m], argTypes := #[64] }) (b n : Nat) (f : Int → Option Int)
    (hm : a.eval m = .map (some b)) (h : MapIs w b n f)
    (hK : ∀ w', MapIs w' b 0 (fun _ => none) → w.mapTurned w' b → wpList Try.prog ops Q rest (a.put o.dst (.tuple #[])) w') :
    wpList Try.prog ops Q (o :: rest) a w := by
  obtain ⟨es, clock, hb⟩ := h.block
  refine wpList_plain hg fun K' hK' => ?_
  unfold Oper.wp
  simp [execOp, hop, resolve, invoke, builtin, hm, Builtin.clear_, run_underlying Try.underlying64, MapKept.run_getObj_map hb, MapKept.run_setObj_map _ hb, Result.andThen]
  refine hK' _ _ (hK _ ⟨.map [], ⟨#[], clock, heap_setBlock_same hb _, fit_empty clock, by simp, by simp⟩, reads_empty⟩ ⟨es, clock, #[], clock, hb, rfl⟩)
end

/-- w' is w but for the blocks of S and new ones. -/
structure Only (S : List Nat) (w w' : World) : Prop where
  os : w'.os = w.os
  tape : w'.tape = w.tape
  output : w'.output = w.output
  size : w.heap.size ≤ w'.heap.size
  block : ∀ k, k < w.heap.size → k ∉ S → w'.heap[k]? = w.heap[k]?

theorem Only.refl (S : List Nat) (w : World) : Only S w w := ⟨rfl, rfl, rfl, Nat.le_refl _, fun _ _ _ => rfl⟩
theorem Only.trans {S : List Nat} {a b c : World} (h : Only S a b) (k : Only S b c) : Only S a c :=
  ⟨k.os.trans h.os, k.tape.trans h.tape, k.output.trans h.output, Nat.le_trans h.size k.size, fun i hi hn => (k.block i (Nat.lt_of_lt_of_le hi h.size) hn).trans (h.block i hi hn)⟩
theorem Only.mono {S T : List Nat} {a b : World} (h : Only S a b) (hs : ∀ k ∈ S, k ∈ T) : Only T a b := ⟨h.os, h.tape, h.output, h.size, fun i hi hn => h.block i hi (fun hm => hn (hs i hm))⟩
theorem Only.drew {S : List Nat} {a b : World} (h : Only S a b) : Only S a b.drew := ⟨h.os, h.tape, h.output, h.size, h.block⟩
theorem Only.alloc {S : List Nat} {a w : World} (h : Only S a w) (o : Obj) : Only S a (w.alloc o) :=
  h.trans ⟨rfl, rfl, rfl, by simp, fun k hk _ => Below.heap_alloc _ _ _ hk⟩
theorem Only.setCell {S : List Nat} {a w : World} (h : Only S a w) {p : Addr} (hp : p.block ∈ S) (u : Value) : Only S a (w.setCell p u) :=
  h.trans ⟨rfl, rfl, rfl, by simp [World.setCell], fun k _ hk => Below.heap_setCell _ _ _ _ (fun e => hk (e ▸ hp))⟩
theorem Only.grown {S : List Nat} {a w w' : World} {row : Option Nat} (h : Only S a w) (hg : w.grownBy w' row) (hr : ∀ k, row = some k → k ∈ S) : Only S a w' :=
  h.trans ⟨hg.os, hg.tape, hg.output, hg.size, fun k hk hn => hg.block k hk (fun e => hn (hr k e.symm))⟩
theorem Only.turned {S : List Nat} {a w w' : World} {b : Nat} (h : Only S a w) (ht : w.mapTurned w' b) (hb : b ∈ S) : Only S a w' :=
  h.grown ht.grown (fun k e => by cases e; exact hb)
theorem Only.of_below {S : List Nat} {w w' : World} (h : Below w.heap.size w w') : Only S w w' := ⟨h.os, h.tape, h.output, h.size, fun k hk _ => h.block k hk⟩
theorem Only.below {S : List Nat} {w w' : World} {B : Nat} (h : Only S w w') (hB : B ≤ w.heap.size) (hS : ∀ k ∈ S, B ≤ k) : Below B w w' :=
  ⟨h.os, h.tape, h.output, h.size, fun k hk => h.block k (by omega) (fun hm => by have := hS k hm; omega)⟩

end Go.Proofs.Ytdjnkibnnjobpaa
