/- What a memory is in the program's memory, and that it stays so while other blocks change. -/
import Derived.Test.YtdjnkibnnjobpaaBase
import Derived.Laws.OwnMore
namespace Go.Proofs.Ytdjnkibnnjobpaa
open Go.RowKit Go.Maps Go.ChangeMaps

/-- Where a memory's parts lie. -/
structure Lay where
  mb : Nat
  sb : Nat
  cap : Nat
  lb : Nat
  wb : Nat
  sp : Option Addr

def Lay.blocks (L : Lay) : List Nat := [L.mb, L.sb, L.lb, L.wb]

def objOf (L : Lay) (n : Nat) (c : Nat) (s : Bool) (t : Int) : Obj :=
  .cells #[.slice L.sp n L.cap, .map (some L.lb), .map (some L.wb), .int .i64 c, .bool s, .int .i64 t] 98 (0, 0)

structure MemIs (w : World) (L : Lay) (M : Mem) : Prop where
  obj : w.heap[L.mb]? = some (objOf L M.sure.length M.calls M.stops M.stopAt)
  row : w.ownsRow 0 23 1 (.slice L.sp M.sure.length L.cap) M.sure.length (M.sure.map (Value.int .u64))
  place : L.sp = none ∧ L.sb = L.mb ∨ L.sp = some ⟨L.sb, 0, none⟩
  loose : MapIs w L.lb (8 * M.calls) M.loose
  way : MapIs w L.wb (8 * M.calls) M.way
  ne : L.lb ≠ L.wb
  looseIn : ∀ k v, M.loose k = some v → 0 ≤ k ∧ k < M.sure.length
  wayIn : ∀ k v, M.way k = some v → 0 ≤ k ∧ k < M.sure.length
  len : M.sure.length ≤ 4096
  words : ∀ v ∈ M.sure, (Lit.int .u64 v).wf = true

section
variable {w w' : World} {L : Lay} {M : Mem}

theorem MemIs.lt (h : MemIs w L M) : L.mb < w.heap.size := (Array.getElem?_eq_some_iff.1 h.obj).1

theorem MemIs.cell (h : MemIs w L M) (i : Nat) : w.cell? ⟨L.mb, i, none⟩ = (#[.slice L.sp M.sure.length L.cap, .map (some L.lb), .map (some L.wb), .int .i64 M.calls, .bool M.stops, .int .i64 M.stopAt] : Array Value)[i]? := by
  simp [World.cell?, h.obj, objOf]
theorem MemIs.c0 (h : MemIs w L M) : w.cell? ⟨L.mb, 0, none⟩ = some (.slice L.sp M.sure.length L.cap) := by rw [h.cell]; rfl
theorem MemIs.c1 (h : MemIs w L M) : w.cell? ⟨L.mb, 1, none⟩ = some (.map (some L.lb)) := by rw [h.cell]; rfl
theorem MemIs.c2 (h : MemIs w L M) : w.cell? ⟨L.mb, 2, none⟩ = some (.map (some L.wb)) := by rw [h.cell]; rfl
theorem MemIs.c3 (h : MemIs w L M) : w.cell? ⟨L.mb, 3, none⟩ = some (.int .i64 M.calls) := by rw [h.cell]; rfl
theorem MemIs.c4 (h : MemIs w L M) : w.cell? ⟨L.mb, 4, none⟩ = some (.bool M.stops) := by rw [h.cell]; rfl
theorem MemIs.c5 (h : MemIs w L M) : w.cell? ⟨L.mb, 5, none⟩ = some (.int .i64 M.stopAt) := by rw [h.cell]; rfl
theorem MemIs.fz (h : MemIs w L M) (i : Nat) : w.frozen? ⟨L.mb, i, none⟩ = false := by simp [World.frozen?, h.obj, objOf]

theorem MemIs.mb_lb (h : MemIs w L M) : L.mb ≠ L.lb := by
  obtain ⟨es, c, hb⟩ := h.loose.block
  intro e; rw [← e, h.obj] at hb; cases hb
theorem MemIs.mb_wb (h : MemIs w L M) : L.mb ≠ L.wb := by
  obtain ⟨es, c, hb⟩ := h.way.block
  intro e; rw [← e, h.obj] at hb; cases hb

/-- The row of sure words, where it is one. -/
theorem MemIs.rowAt (h : MemIs w L M) (hp : L.sp = some ⟨L.sb, 0, none⟩) : ∃ cur, w.heap[L.sb]? = some (.cells cur 23 (0, 0)) := by
  rcases h.row.2 with ⟨e, _⟩ | ⟨g, cap, cur, e, _, hb, _⟩
  · rw [hp] at e; cases e
  · rw [hp] at e; cases e; exact ⟨cur, hb⟩
theorem MemIs.sb_mb (h : MemIs w L M) (hp : L.sp = some ⟨L.sb, 0, none⟩) : L.sb ≠ L.mb := by
  obtain ⟨cur, hb⟩ := h.rowAt hp
  intro e; rw [e, h.obj] at hb; cases hb
theorem MemIs.sb_lb (h : MemIs w L M) (hp : L.sp = some ⟨L.sb, 0, none⟩) : L.sb ≠ L.lb := by
  obtain ⟨cur, hb⟩ := h.rowAt hp
  obtain ⟨es, c, hb'⟩ := h.loose.block
  intro e; rw [e, hb'] at hb; cases hb
theorem MemIs.sb_wb (h : MemIs w L M) (hp : L.sp = some ⟨L.sb, 0, none⟩) : L.sb ≠ L.wb := by
  obtain ⟨cur, hb⟩ := h.rowAt hp
  obtain ⟨es, c, hb'⟩ := h.way.block
  intro e; rw [e, hb'] at hb; cases hb
theorem MemIs.some_of_pos (h : MemIs w L M) (hn : 0 < M.sure.length) : L.sp = some ⟨L.sb, 0, none⟩ := by
  rcases h.place with ⟨e, _⟩ | e
  · rcases h.row.2 with ⟨_, e0⟩ | ⟨g, cap, cur, e', _⟩
    · omega
    · rw [e] at e'; cases e'
  · exact e

theorem ownsRow_of_block {w w' : World} {e : TypeId} {v : Value} {n : Nat} {xs : List Value} (h : w.ownsRow 0 e 1 v n xs) (hb : ∀ g, v.ownBlock = some g → w'.heap[g]? = w.heap[g]?) : w'.ownsRow 0 e 1 v n xs := by
  refine ⟨h.1, ?_⟩
  rcases h.2 with h2 | ⟨g, cap, cur, rfl, r1, r2, r3⟩
  · exact .inl h2
  · exact .inr ⟨g, cap, cur, rfl, r1, (hb g rfl).trans r2, r3⟩

theorem MemIs.row_of (h : MemIs w L M) (hb : L.sp = some ⟨L.sb, 0, none⟩ → w'.heap[L.sb]? = w.heap[L.sb]?) : w'.ownsRow 0 23 1 (.slice L.sp M.sure.length L.cap) M.sure.length (M.sure.map (Value.int .u64)) :=
  ownsRow_of_block h.row fun g hg => by
    rcases h.place with ⟨e, _⟩ | e
    · rw [e] at hg; cases hg
    · rw [e] at hg; cases hg; exact hb e

/-- A memory stays what it is while its own blocks stay. -/
theorem MemIs.of_blocks (h : MemIs w L M) (hb : ∀ k ∈ L.blocks, k < w.heap.size → w'.heap[k]? = w.heap[k]?) : MemIs w' L M where
  obj := (hb _ (by simp [Lay.blocks]) h.lt).trans h.obj
  row := h.row_of fun e => by
    obtain ⟨cur, hc⟩ := h.rowAt e
    exact hb _ (by simp [Lay.blocks]) (Array.getElem?_eq_some_iff.1 hc).1
  place := h.place
  loose := h.loose.of_block (hb _ (by simp [Lay.blocks]) h.loose.lt)
  way := h.way.of_block (hb _ (by simp [Lay.blocks]) h.way.lt)
  ne := h.ne
  looseIn := h.looseIn
  wayIn := h.wayIn
  len := h.len
  words := h.words

theorem MemIs.kept {S : List Nat} (h : MemIs w L M) (ho : Only S w w') (hS : ∀ k ∈ L.blocks, k ∉ S) : MemIs w' L M :=
  h.of_blocks fun k hk hl => ho.block k hl (hS k hk)
theorem MemIs.alloc (h : MemIs w L M) (o : Obj) : MemIs (w.alloc o) L M := h.of_blocks fun _ _ hl => Below.heap_alloc _ _ _ hl
theorem MemIs.drew (h : MemIs w L M) : MemIs w.drew L M := ⟨h.obj, h.row, h.place, h.loose, h.way, h.ne, h.looseIn, h.wayIn, h.len, h.words⟩

/-- Only the counters of the object have changed. -/
theorem MemIs.fields (h : MemIs w L M) {c : Nat} {s : Bool} {t : Int} (hc : M.calls ≤ c) (ho : w'.heap[L.mb]? = some (objOf L M.sure.length c s t)) (hb : ∀ k, k ≠ L.mb → w'.heap[k]? = w.heap[k]?) :
    MemIs w' L { M with calls := c, stops := s, stopAt := t } where
  obj := ho
  row := h.row_of fun e => hb _ (h.sb_mb e)
  place := h.place
  loose := (h.loose.of_block (hb _ h.mb_lb.symm)).mono (by show 8 * M.calls ≤ 8 * c; omega)
  way := (h.way.of_block (hb _ h.mb_wb.symm)).mono (by show 8 * M.calls ≤ 8 * c; omega)
  ne := h.ne
  looseIn := h.looseIn
  wayIn := h.wayIn
  len := h.len
  words := h.words

theorem heap_set3 {n c : Nat} {s : Bool} {t : Int} (ho : w.heap[L.mb]? = some (objOf L n c s t)) (c' : Nat) : (w.setCell ⟨L.mb, 3, none⟩ (.int .i64 c')).heap[L.mb]? = some (objOf L n c' s t) := by
  simp [World.setCell, Array.getElem?_modify, ho, objOf]
theorem heap_set4 {n c : Nat} {s : Bool} {t : Int} (ho : w.heap[L.mb]? = some (objOf L n c s t)) (s' : Bool) : (w.setCell ⟨L.mb, 4, none⟩ (.bool s')).heap[L.mb]? = some (objOf L n c s' t) := by
  simp [World.setCell, Array.getElem?_modify, ho, objOf]
theorem heap_set5 {n c : Nat} {s : Bool} {t : Int} (ho : w.heap[L.mb]? = some (objOf L n c s t)) (t' : Int) : (w.setCell ⟨L.mb, 5, none⟩ (.int .i64 t')).heap[L.mb]? = some (objOf L n c s t') := by
  simp [World.setCell, Array.getElem?_modify, ho, objOf]

/-- The loose words alone have changed. -/
theorem MemIs.newLoose (h : MemIs w L M) {n : Nat} {f : Int → Option Int} (hm : MapIs w' L.lb n f) (hn : n ≤ 8 * M.calls) (ho : Only [L.lb] w w') (hf : ∀ k v, f k = some v → 0 ≤ k ∧ k < M.sure.length) : MemIs w' L { M with loose := f } where
  obj := (ho.block _ h.lt (by simp [h.mb_lb])).trans h.obj
  row := h.row_of fun e => by
    obtain ⟨cur, hc⟩ := h.rowAt e
    exact ho.block _ (Array.getElem?_eq_some_iff.1 hc).1 (by simp [h.sb_lb e])
  place := h.place
  loose := hm.mono hn
  way := h.way.of_block (ho.block _ h.way.lt (by simp [h.ne.symm]))
  ne := h.ne
  looseIn := hf
  wayIn := h.wayIn
  len := h.len
  words := h.words

/-- What is on the way alone has changed. -/
theorem MemIs.newWay (h : MemIs w L M) {n : Nat} {f : Int → Option Int} (hm : MapIs w' L.wb n f) (hn : n ≤ 8 * M.calls) (ho : Only [L.wb] w w') (hf : ∀ k v, f k = some v → 0 ≤ k ∧ k < M.sure.length) : MemIs w' L { M with way := f } where
  obj := (ho.block _ h.lt (by simp [h.mb_wb])).trans h.obj
  row := h.row_of fun e => by
    obtain ⟨cur, hc⟩ := h.rowAt e
    exact ho.block _ (Array.getElem?_eq_some_iff.1 hc).1 (by simp [h.sb_wb e])
  place := h.place
  loose := h.loose.of_block (ho.block _ h.loose.lt (by simp [h.ne]))
  way := hm.mono hn
  ne := h.ne
  looseIn := h.looseIn
  wayIn := hf
  len := h.len
  words := h.words

/-- A sure word has been stored. -/
theorem MemIs.newSure (h : MemIs w L M) (k : Nat) (v : Int) (hk : k < M.sure.length) (hv : (Lit.int .u64 v).wf = true) : MemIs (w.setCell ⟨L.sb, k, none⟩ (.int .u64 v)) L { M with sure := M.sure.set k v } := by
  have e := h.some_of_pos (Nat.zero_lt_of_lt hk)
  have hb : ∀ j, j ≠ L.sb → (w.setCell ⟨L.sb, k, none⟩ (.int .u64 v)).heap[j]? = w.heap[j]? := fun j hj => Below.heap_setCell _ _ _ _ hj
  have hrow := h.row
  rw [e] at hrow
  refine ⟨?_, ?_, h.place, ?_, ?_, h.ne, ?_, ?_, ?_, ?_⟩
  · rw [hb _ (h.sb_mb e).symm]; simpa using h.obj
  · have := (hrow.stored k (.int .u64 v)).1
    rw [e]
    simpa [List.map_set] using this
  · exact h.loose.of_block (hb _ (h.sb_lb e).symm)
  · exact h.way.of_block (hb _ (h.sb_wb e).symm)
  · intro j x hj; have := h.looseIn j x hj; simpa using this
  · intro j x hj; have := h.wayIn j x hj; simpa using this
  · simpa using h.len
  · intro x hx
    rcases List.mem_or_eq_of_mem_set hx with hx | rfl
    · exact h.words x hx
    · exact hv

theorem MemIs.sureCell (h : MemIs w L M) (k : Nat) (hk : k < M.sure.length) : w.cell? ⟨L.sb, k, none⟩ = some (.int .u64 (M.sure.getD k 0)) := by
  have e := h.some_of_pos (Nat.zero_lt_of_lt hk)
  have hrow := h.row
  rw [e] at hrow
  rw [hrow.cellAt k (by simpa using hk)]
  simp [hk]
theorem MemIs.sureFz (h : MemIs w L M) (k : Nat) (hk : k < M.sure.length) : w.frozen? ⟨L.sb, k, none⟩ = false := by
  have e := h.some_of_pos (Nat.zero_lt_of_lt hk)
  have hrow := h.row
  rw [e] at hrow
  exact hrow.frozenAt k

theorem MemIs.congr (h : MemIs w L M) {M' : Mem} (h1 : M'.sure = M.sure) (h2 : ∀ k, M'.loose k = M.loose k) (h3 : ∀ k, M'.way k = M.way k) (h4 : M'.calls = M.calls) (h5 : M'.stops = M.stops) (h6 : M'.stopAt = M.stopAt) : MemIs w L M' := by
  have : M' = M := by
    obtain ⟨a, b, c, d, e, f⟩ := M
    obtain ⟨a', b', c', d', e', f'⟩ := M'
    simp only at h1 h2 h3 h4 h5 h6
    rw [h1, funext h2, funext h3, h4, h5, h6]
  rw [this]; exact h
end

end Go.Proofs.Ytdjnkibnnjobpaa
