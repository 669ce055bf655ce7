/- Sets of places as the program's map of int to bool, with what is a key; what a view is in the program's memory, and that it stays so while other blocks change. -/
import Derived.Test.YtdjnkibnnjobpaaLd
import Derived.Test.YtdjnkibnnjobpaaBMap
import Derived.WideKeyEntry
namespace Go.Proofs.Ytdjnkibnnjobpaa
open Go.RowKit Go.Maps Go.ChangeMaps

/-- The datum D holds true at just the places of s, and has no other key. -/
def SReads (D : DataW Unit) (s : Int → Bool) : Prop := ∀ k : Int, Maps.has D (.int .i64 k) = s k ∧ (s k = true → ∀ zd, D.atKey (.int .i64 k) zd = .lit (.bool true))
/-- Block b is a map of at most n entries that holds true at just the places of s. -/
def SetIs (w : World) (b n : Nat) (s : Int → Bool) : Prop := ∃ D : DataW Unit, w.ownsMap Try.prog 3 (plainElem Try.prog 4) b n D ∧ SReads D s

theorem SReads.look {D : DataW Unit} {s : Int → Bool} (h : SReads D s) (k : Int) : D.atKey (.int .i64 k) (.lit (.bool false)) = .lit (.bool (s k)) := by
  obtain ⟨h1, h2⟩ := h k
  cases hs : s k with
  | true => exact h2 hs _
  | false =>
    rw [hs] at h1
    exact atKey_of_not_has h1 _
theorem SetIs.run {w : World} {b n : Nat} {s : Int → Bool} (h : SetIs w b n s) {k : Int} (hwk : (Lit.int .i64 k).wf = true) : (Instr.lookup 66 (.map (some b)) (.int .i64 k) false).run Try.prog w = .ok (.bool (s k)) w := by
  obtain ⟨D, hown, hr⟩ := h
  obtain ⟨v, ps, hrun, hv⟩ := hown.lookup law3 Try.underlying66 (zero4 _) (plainElem_bool Try.underlying4 false) (keyOf_int_mk Try.underlying3 hwk)
  obtain ⟨x, rfl, hx⟩ := plainElem_bool_inv Try.underlying4 hv
  rw [hr.look k] at hx
  cases hx
  exact hrun
theorem smade (w : World) : SetIs (w.alloc (.map #[] 0)) w.heap.size 0 (fun _ => false) := ⟨_, World.ownsMap_made w _ _ _, fun _ => ⟨rfl, fun h => by cases h⟩⟩
theorem SetIs.of_block {w w' : World} {b n : Nat} {s : Int → Bool} (h : SetIs w b n s) (hb : w'.heap[b]? = w.heap[b]?) : SetIs w' b n s := by
  obtain ⟨D, ⟨es, c, h1, r⟩, h2⟩ := h
  exact ⟨D, ⟨es, c, hb.trans h1, r⟩, h2⟩
theorem SetIs.lt {w : World} {b n : Nat} {s : Int → Bool} (h : SetIs w b n s) : b < w.heap.size := let ⟨_, h1, _⟩ := h; h1.lt
theorem SetIs.mono {w : World} {b n n' : Nat} {s : Int → Bool} (h : SetIs w b n s) (hn : n ≤ n') : SetIs w b n' s := let ⟨D, h1, h2⟩ := h; ⟨D, h1.mono hn, h2⟩
theorem SetIs.congr {w : World} {b n : Nat} {s t : Int → Bool} (h : SetIs w b n s) (e : ∀ k, t k = s k) : SetIs w b n t := by
  obtain ⟨D, h1, h2⟩ := h
  exact ⟨D, h1, fun k => by rw [e k]; exact h2 k⟩
theorem SetIs.block {w : World} {b n : Nat} {s : Int → Bool} (h : SetIs w b n s) : ∃ es c, w.heap[b]? = some (.map es c) := let ⟨_, ⟨es, c, hb, _⟩, _⟩ := h; ⟨es, c, hb⟩
/-- With k, too. -/
def addB (s : Int → Bool) (k : Int) : Int → Bool := fun j => decide (j = k) || s j
theorem sreads_put {D : DataW Unit} {s : Int → Bool} (h : SReads D s) (hD : IsMap D) (k : Int) : SReads (D.put (.int .i64 k) (.lit (.bool true))) (addB s k) := by
  intro j
  unfold addB
  by_cases e : j = k
  · subst e
    exact ⟨(has_put_same hD (k := .int .i64 j) trivial _).trans (by simp), fun _ zd => atKey_put_same hD (k := .int .i64 j) trivial _ _⟩
  · refine ⟨(has_put_other (key_ne e) _).trans ((h j).1.trans (by simp [e])), fun hs zd => ?_⟩
    rw [atKey_put_other (key_ne e)]
    exact (h j).2 (by simpa [e] using hs) zd

section
variable (w : World) {ops : Array Oper} {rest : List Oper} {o : Oper} {a : Act} {Q : Exit → Act → World → Prop}
theorem wpList_sput (hg : o.guard = none) (m x v : Operand) (hop : o.op = Op.mapUpdate 66 m x v) (b n : Nat) (s : Int → Bool) (k : Int)
    (hm : a.eval m = .map (some b)) (h : SetIs w b n s) (hn : n < maxLen) (hx : a.eval x = .int .i64 k) (hv : a.eval v = .bool true) (hwk : (Lit.int .i64 k).wf = true)
    (hK : ∀ w', SetIs w' b (n + 1) (addB s k) → w.mapTurned w' b → wpList Try.prog ops Q rest (a.put o.dst undef) w') :
    wpList Try.prog ops Q (o :: rest) a w := by
  obtain ⟨D, hown, hr⟩ := h
  refine wpList_mapUpdate_in w hg m x v 66 hop 3 4 law3 Try.underlying66 _ b n D hm hown hn _ _ _ hx hv (keyOf_int_mk Try.underlying3 hwk) _ [] (plainElem_bool Try.underlying4 true) ?_
  intro w1 hown1 hturn
  exact hK w1 ⟨_, hown1, sreads_put hr hown.isMap k⟩ hturn
end

/-- A set that may be nil. -/
def OSet (w : World) (x : Option Nat) (s : Int → Bool) : Prop := match x with
  | none => ∀ k, s k = false
  | some b => ∃ n, SetIs w b n s
theorem OSet.run {w : World} {x : Option Nat} {s : Int → Bool} (h : OSet w x s) {k : Int} (hwk : (Lit.int .i64 k).wf = true) : (Instr.lookup 66 (.map x) (.int .i64 k) false).run Try.prog w = .ok (.bool (s k)) w := by
  cases x with
  | some b => obtain ⟨n, h⟩ := h; exact SetIs.run h hwk
  | none =>
    have e := h k
    have hr := Maps.look_nil (w := w) (P := Try.prog) (k := 3) (t := 66) (e := 4) false law3 Try.underlying66 (zero4 _) (keyOf_int_mk Try.underlying3 hwk)
    rw [e]
    exact hr
theorem OSet.of_blocks {w w' : World} {x : Option Nat} {s : Int → Bool} (h : OSet w x s) (hb : ∀ b, x = some b → b < w.heap.size → w'.heap[b]? = w.heap[b]?) : OSet w' x s := by
  cases x with
  | none => exact h
  | some b => obtain ⟨n, h⟩ := h; exact ⟨n, SetIs.of_block h (hb b rfl (SetIs.lt h))⟩
theorem OSet.lt {w : World} {b : Nat} {s : Int → Bool} (h : OSet w (some b) s) : b < w.heap.size := let ⟨_, h⟩ := h; SetIs.lt h

/-- Where a view's parts lie: its object, its memory, its words, what it has noted, what it is to leave alone (if that was said). -/
structure VLay where
  vb : Nat
  mb : Nat
  ob : Nat
  sb : Nat
  nb : Nat
  bb : Option Nat
  db : Option Nat
/-- What a view has written, and noted; what it is to leave alone. -/
structure Vw where
  own : Int → Option Int
  seen : Int → Bool
  mine : Int → Bool
  away : Int → Bool
  awayN : Int → Bool

/-- The blocks that its calls change; all of its blocks. -/
def VLay.blocks (V : VLay) : List Nat := [V.vb, V.ob, V.sb, V.nb]
def VLay.all (V : VLay) : List Nat := V.blocks ++ V.bb.toList ++ V.db.toList
def VLay.obj (V : VLay) : Obj := .cells #[.pointer (some ⟨V.mb, 0, none⟩), .map (some V.ob), .map (some V.sb), .map (some V.nb), .map V.bb, .map V.db] 68 (0, 0)
/-- The word that the view reads. -/
def Vw.word (S : Vw) (M : Mem) (k : Int) : Int := (S.own k).getD (M.read k)
/-- Nothing is written or noted. -/
def Vw.clean (S : Vw) : Vw := ⟨fun _ => none, fun _ => false, fun _ => false, S.away, S.awayN⟩
def Vw.new : Vw := ⟨fun _ => none, fun _ => false, fun _ => false, fun _ => false, fun _ => false⟩

structure ViewIs (w : World) (V : VLay) (S : Vw) (N : Nat) : Prop where
  obj : w.heap[V.vb]? = some V.obj
  own : MapIs w V.ob N S.own
  seen : SetIs w V.sb N S.seen
  mine : SetIs w V.nb N S.mine
  away : OSet w V.bb S.away
  awayN : OSet w V.db S.awayN
  apart : V.ob ≠ V.sb ∧ V.ob ≠ V.nb ∧ V.sb ≠ V.nb
  apartB : ∀ x, V.bb = some x → x ≠ V.ob ∧ x ≠ V.sb ∧ x ≠ V.nb
  apartD : ∀ x, V.db = some x → x ≠ V.ob ∧ x ≠ V.sb ∧ x ≠ V.nb
  inside : ∀ k v, S.own k = some v → openI k
  seenIn : ∀ k, S.seen k = true → 0 ≤ k ∧ k < 24
  mineIn : ∀ k, S.mine k = true → 0 ≤ k ∧ k < 24

section
variable {w w' : World} {V : VLay} {S : Vw} {N : Nat}
theorem ViewIs.lt (h : ViewIs w V S N) : V.vb < w.heap.size := (Array.getElem?_eq_some_iff.1 h.obj).1
theorem ViewIs.cell (h : ViewIs w V S N) (i : Nat) : w.cell? ⟨V.vb, i, none⟩ = (#[.pointer (some ⟨V.mb, 0, none⟩), .map (some V.ob), .map (some V.sb), .map (some V.nb), .map V.bb, .map V.db] : Array Value)[i]? := by
  simp [World.cell?, h.obj, VLay.obj]
theorem ViewIs.c0 (h : ViewIs w V S N) : w.cell? ⟨V.vb, 0, none⟩ = some (.pointer (some ⟨V.mb, 0, none⟩)) := by rw [h.cell]; rfl
theorem ViewIs.c1 (h : ViewIs w V S N) : w.cell? ⟨V.vb, 1, none⟩ = some (.map (some V.ob)) := by rw [h.cell]; rfl
theorem ViewIs.c2 (h : ViewIs w V S N) : w.cell? ⟨V.vb, 2, none⟩ = some (.map (some V.sb)) := by rw [h.cell]; rfl
theorem ViewIs.c3 (h : ViewIs w V S N) : w.cell? ⟨V.vb, 3, none⟩ = some (.map (some V.nb)) := by rw [h.cell]; rfl
theorem ViewIs.c4 (h : ViewIs w V S N) : w.cell? ⟨V.vb, 4, none⟩ = some (.map V.bb) := by rw [h.cell]; rfl
theorem ViewIs.c5 (h : ViewIs w V S N) : w.cell? ⟨V.vb, 5, none⟩ = some (.map V.db) := by rw [h.cell]; rfl
theorem ViewIs.fz (h : ViewIs w V S N) (i : Nat) : w.frozen? ⟨V.vb, i, none⟩ = false := by simp [World.frozen?, h.obj, VLay.obj]
theorem ViewIs.vb_map (h : ViewIs w V S N) {b : Nat} {es : Array MapEntry} {c : Nat} (hb : w.heap[b]? = some (.map es c)) : V.vb ≠ b := by
  intro e; rw [← e, h.obj] at hb; cases hb
theorem ViewIs.vb_ob (h : ViewIs w V S N) : V.vb ≠ V.ob := let ⟨_, _, hb⟩ := h.own.block; h.vb_map hb
theorem ViewIs.vb_sb (h : ViewIs w V S N) : V.vb ≠ V.sb := let ⟨_, _, hb⟩ := h.seen.block; h.vb_map hb
theorem ViewIs.vb_nb (h : ViewIs w V S N) : V.vb ≠ V.nb := let ⟨_, _, hb⟩ := h.mine.block; h.vb_map hb
theorem OSet.block {b : Nat} {s : Int → Bool} (h : OSet w (some b) s) : ∃ es c, w.heap[b]? = some (.map es c) := let ⟨_, h⟩ := h; SetIs.block h
theorem ViewIs.vb_bb (h : ViewIs w V S N) {x : Nat} (e : V.bb = some x) : V.vb ≠ x := by
  have := h.away
  rw [e] at this
  obtain ⟨_, _, hb⟩ := this.block
  exact h.vb_map hb
theorem ViewIs.vb_db (h : ViewIs w V S N) {x : Nat} (e : V.db = some x) : V.vb ≠ x := by
  have := h.awayN
  rw [e] at this
  obtain ⟨_, _, hb⟩ := this.block
  exact h.vb_map hb
theorem ViewIs.all_lt (h : ViewIs w V S N) : ∀ k ∈ V.all, k < w.heap.size := by
  intro k hk
  simp only [VLay.all, VLay.blocks, List.mem_append, List.mem_cons, List.not_mem_nil, or_false, Option.mem_toList] at hk
  rcases hk with ((rfl | rfl | rfl | rfl) | hk) | hk
  · exact h.lt
  · exact h.own.lt
  · exact h.seen.lt
  · exact h.mine.lt
  · have := h.away
    rw [hk] at this
    exact this.lt
  · have := h.awayN
    rw [hk] at this
    exact this.lt
theorem VLay.blocks_all (V : VLay) : ∀ k ∈ V.blocks, k ∈ V.all := fun k hk => by simp [VLay.all, hk]
theorem ViewIs.mono (h : ViewIs w V S N) {N' : Nat} (hn : N ≤ N') : ViewIs w V S N' :=
  ⟨h.obj, h.own.mono hn, h.seen.mono hn, h.mine.mono hn, h.away, h.awayN, h.apart, h.apartB, h.apartD, h.inside, h.seenIn, h.mineIn⟩
/-- A view stays what it is while its own blocks stay. -/
theorem ViewIs.of_blocks (h : ViewIs w V S N) (hb : ∀ k ∈ V.all, k < w.heap.size → w'.heap[k]? = w.heap[k]?) : ViewIs w' V S N where
  obj := (hb _ (by simp [VLay.all, VLay.blocks]) h.lt).trans h.obj
  own := h.own.of_block (hb _ (by simp [VLay.all, VLay.blocks]) h.own.lt)
  seen := h.seen.of_block (hb _ (by simp [VLay.all, VLay.blocks]) h.seen.lt)
  mine := h.mine.of_block (hb _ (by simp [VLay.all, VLay.blocks]) h.mine.lt)
  away := h.away.of_blocks fun b e hl => hb b (by simp [VLay.all, e]) hl
  awayN := h.awayN.of_blocks fun b e hl => hb b (by simp [VLay.all, e]) hl
  apart := h.apart
  apartB := h.apartB
  apartD := h.apartD
  inside := h.inside
  seenIn := h.seenIn
  mineIn := h.mineIn
theorem ViewIs.kept {X : List Nat} (h : ViewIs w V S N) (ho : Only X w w') (hX : ∀ k ∈ V.all, k ∉ X) : ViewIs w' V S N := h.of_blocks fun k hk hl => ho.block k hl (hX k hk)
theorem ViewIs.below {B : Nat} (h : ViewIs w V S N) (hb : Below B w w') (hB : ∀ k ∈ V.all, k < B) : ViewIs w' V S N := h.of_blocks fun k hk _ => hb.block k (hB k hk)
theorem ViewIs.later (h : ViewIs w V S N) (hb : Below w.heap.size w w') : ViewIs w' V S N := h.below hb h.all_lt
theorem MemIs.later {L : Lay} {M : Mem} (h : MemIs w L M) (hb : Below w.heap.size w w') : MemIs w' L M := h.below hb h.all_lt

/-- Its words alone have changed. -/
theorem ViewIs.newOwn (h : ViewIs w V S N) {n : Nat} {f : Int → Option Int} (hm : MapIs w' V.ob n f) (hn : n ≤ N + 1) (ho : Only [V.ob] w w') (hf : ∀ k v, f k = some v → openI k) : ViewIs w' V { S with own := f } (N + 1) := by
  have k1 : ∀ k ∈ V.all, k ≠ V.ob → k < w.heap.size → w'.heap[k]? = w.heap[k]? := fun k _ hk hl => ho.block k hl (by simpa using hk)
  have g := h.mono (Nat.le_succ N)
  exact ⟨(k1 _ (by simp [VLay.all, VLay.blocks]) h.vb_ob h.lt).trans h.obj, hm.mono hn, g.seen.of_block (k1 _ (by simp [VLay.all, VLay.blocks]) h.apart.1.symm h.seen.lt), g.mine.of_block (k1 _ (by simp [VLay.all, VLay.blocks]) h.apart.2.1.symm h.mine.lt),
    g.away.of_blocks fun b e hl => k1 b (by simp [VLay.all, e]) (h.apartB b e).1 hl, g.awayN.of_blocks fun b e hl => k1 b (by simp [VLay.all, e]) (h.apartD b e).1 hl, h.apart, h.apartB, h.apartD, hf, h.seenIn, h.mineIn⟩
/-- What it has noted as read alone has changed. -/
theorem ViewIs.newSeen (h : ViewIs w V S N) {n : Nat} {f : Int → Bool} (hm : SetIs w' V.sb n f) (hn : n ≤ N + 1) (ho : Only [V.sb] w w') (hf : ∀ k, f k = true → 0 ≤ k ∧ k < 24) : ViewIs w' V { S with seen := f } (N + 1) := by
  have k1 : ∀ k ∈ V.all, k ≠ V.sb → k < w.heap.size → w'.heap[k]? = w.heap[k]? := fun k _ hk hl => ho.block k hl (by simpa using hk)
  have g := h.mono (Nat.le_succ N)
  exact ⟨(k1 _ (by simp [VLay.all, VLay.blocks]) h.vb_sb h.lt).trans h.obj, g.own.of_block (k1 _ (by simp [VLay.all, VLay.blocks]) h.apart.1 h.own.lt), hm.mono hn, g.mine.of_block (k1 _ (by simp [VLay.all, VLay.blocks]) h.apart.2.2.symm h.mine.lt),
    g.away.of_blocks fun b e hl => k1 b (by simp [VLay.all, e]) (h.apartB b e).2.1 hl, g.awayN.of_blocks fun b e hl => k1 b (by simp [VLay.all, e]) (h.apartD b e).2.1 hl, h.apart, h.apartB, h.apartD, h.inside, hf, h.mineIn⟩
/-- What it has noted as set alone has changed. -/
theorem ViewIs.newMine (h : ViewIs w V S N) {n : Nat} {f : Int → Bool} (hm : SetIs w' V.nb n f) (hn : n ≤ N + 1) (ho : Only [V.nb] w w') (hf : ∀ k, f k = true → 0 ≤ k ∧ k < 24) : ViewIs w' V { S with mine := f } (N + 1) := by
  have k1 : ∀ k ∈ V.all, k ≠ V.nb → k < w.heap.size → w'.heap[k]? = w.heap[k]? := fun k _ hk hl => ho.block k hl (by simpa using hk)
  have g := h.mono (Nat.le_succ N)
  exact ⟨(k1 _ (by simp [VLay.all, VLay.blocks]) h.vb_nb h.lt).trans h.obj, g.own.of_block (k1 _ (by simp [VLay.all, VLay.blocks]) h.apart.2.1 h.own.lt), g.seen.of_block (k1 _ (by simp [VLay.all, VLay.blocks]) h.apart.2.2 h.seen.lt), hm.mono hn,
    g.away.of_blocks fun b e hl => k1 b (by simp [VLay.all, e]) (h.apartB b e).2.2 hl, g.awayN.of_blocks fun b e hl => k1 b (by simp [VLay.all, e]) (h.apartD b e).2.2 hl, h.apart, h.apartB, h.apartD, h.inside, h.seenIn, hf⟩
theorem addB_in {s : Int → Bool} {a b : Int} (h : ∀ k, s k = true → a ≤ k ∧ k < b) {x : Int} (hx : a ≤ x ∧ x < b) : ∀ k, addB s x k = true → a ≤ k ∧ k < b := by
  intro k hk
  unfold addB at hk
  simp only [Bool.or_eq_true, decide_eq_true_eq] at hk
  rcases hk with rfl | hk
  · exact hx
  · exact h k hk
end

end Go.Proofs.Ytdjnkibnnjobpaa
