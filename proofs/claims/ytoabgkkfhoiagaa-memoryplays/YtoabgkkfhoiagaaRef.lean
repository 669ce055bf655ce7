/- The document's own memory: its words as they lie, and its small calls: counting, whether a word is there, storing, stopping. -/
import Derived.Test.YtoabgkkfhoiagaaFacts
import Derived.Deep.RegionHeld3
namespace Go.Proofs.Ytoabgkkfhoiagaa
open Go.RowKit Go.Maps Go.ChangeMaps

/-- A word of the document's memory. -/
structure RW where
  sure : Int
  now : Int
  way : Int
  loose : Bool
  goes : Bool

def fld (x : RW) : Nat → Value
  | 0 => .int .u64 x.sure
  | 1 => .int .u64 x.now
  | 2 => .int .u64 x.way
  | 3 => .bool x.loose
  | _ => .bool x.goes

def refRow (n : Nat) (R : Nat → RW) : List Value := (List.range (n * 5)).map fun j => fld (R (j / 5)) (j % 5)
def updR (R : Nat → RW) (i : Nat) (x : RW) : Nat → RW := fun j => if j = i then x else R j
theorem updR_same (R : Nat → RW) (i : Nat) (x : RW) : updR R i x i = x := by simp [updR]
theorem updR_other (R : Nat → RW) {i j : Nat} (x : RW) (h : j ≠ i) : updR R i x j = R j := by simp [updR, h]

structure RLay where
  rb : Nat
  gb : Nat
  cap : Nat
  sp : Option Addr
def RLay.blocks (L : RLay) : List Nat := [L.rb, L.gb]

def robj (L : RLay) (n c : Nat) (h : Int) : Obj := .cells #[.slice L.sp n L.cap, .int .i64 c, .int .i64 h] 40 (0, 0)

structure RefAt (w : World) (L : RLay) (n : Nat) (R : Nat → RW) (c : Nat) (h : Int) : Prop where
  obj : w.heap[L.rb]? = some (robj L n c h)
  row : w.ownsRow 0 71 5 (.slice L.sp n L.cap) n (refRow n R)
  place : L.sp = none ∧ L.gb = L.rb ∨ L.sp = some ⟨L.gb, 0, none⟩
  len : n ≤ 4096

section
variable {w w' : World} {L : RLay} {n c : Nat} {R : Nat → RW} {h : Int}

theorem RefAt.lt (H : RefAt w L n R c h) : L.rb < w.heap.size := (Array.getElem?_eq_some_iff.1 H.obj).1
theorem RefAt.objCell (H : RefAt w L n R c h) (i : Nat) : w.cell? ⟨L.rb, i, none⟩ = (#[.slice L.sp n L.cap, .int .i64 c, .int .i64 h] : Array Value)[i]? := by
  simp [World.cell?, H.obj, robj]
theorem RefAt.c0 (H : RefAt w L n R c h) : w.cell? ⟨L.rb, 0, none⟩ = some (.slice L.sp n L.cap) := by rw [H.objCell]; rfl
theorem RefAt.c1 (H : RefAt w L n R c h) : w.cell? ⟨L.rb, 1, none⟩ = some (.int .i64 c) := by rw [H.objCell]; rfl
theorem RefAt.c2 (H : RefAt w L n R c h) : w.cell? ⟨L.rb, 2, none⟩ = some (.int .i64 h) := by rw [H.objCell]; rfl
theorem RefAt.fz (H : RefAt w L n R c h) (i : Nat) : w.frozen? ⟨L.rb, i, none⟩ = false := by simp [World.frozen?, H.obj, robj]

theorem RefAt.rowAt (H : RefAt w L n R c h) (hp : L.sp = some ⟨L.gb, 0, none⟩) : ∃ cur, w.heap[L.gb]? = some (.cells cur 71 (0, 0)) := by
  rcases H.row.2 with ⟨e, _⟩ | ⟨g, cap, cur, e, _, hb, _⟩
  · rw [hp] at e; cases e
  · rw [hp] at e; cases e; exact ⟨cur, hb⟩
theorem RefAt.gb_rb (H : RefAt w L n R c h) (hp : L.sp = some ⟨L.gb, 0, none⟩) : L.gb ≠ L.rb := by
  obtain ⟨cur, hb⟩ := H.rowAt hp
  intro e; rw [e, H.obj] at hb; cases hb
theorem RefAt.some_of_pos (H : RefAt w L n R c h) (hn : 0 < n) : L.sp = some ⟨L.gb, 0, none⟩ := by
  rcases H.place with ⟨e, _⟩ | e
  · rcases H.row.2 with ⟨_, e0⟩ | ⟨g, cap, cur, e', _⟩
    · omega
    · rw [e] at e'; cases e'
  · exact e

theorem RefAt.cell (H : RefAt w L n R c h) (i f : Nat) (hi : i < n) (hf : f < 5) : w.cell? ⟨L.gb, i * 5 + f, none⟩ = some (fld (R i) f) := by
  have e := H.some_of_pos (Nat.zero_lt_of_lt hi)
  have hrow := H.row
  rw [e] at hrow
  rw [hrow.cellAt (i * 5 + f) (by omega)]
  have h1 : i * 5 + f < n * 5 := by omega
  have h2 : (i * 5 + f) / 5 = i := by omega
  have h3 : (i * 5 + f) % 5 = f := by omega
  simp [refRow, h1, h2, h3]
theorem RefAt.cellFz (H : RefAt w L n R c h) (hi : 0 < n) (j : Nat) : w.frozen? ⟨L.gb, j, none⟩ = false := by
  have e := H.some_of_pos hi
  have hrow := H.row
  rw [e] at hrow
  exact hrow.frozenAt j

theorem refRow_set (n : Nat) (R : Nat → RW) (i f : Nat) (x : RW) (hf : f < 5) (hx : ∀ g, g < 5 → g ≠ f → fld x g = fld (R i) g) : (refRow n R).set (i * 5 + f) (fld x f) = refRow n (updR R i x) := by
  apply List.ext_getElem (by simp [refRow])
  intro j h1 h2
  rw [List.getElem_set]
  simp only [refRow, List.getElem_map, List.getElem_range]
  by_cases e : i * 5 + f = j
  · subst e
    have h2 : (i * 5 + f) / 5 = i := by omega
    have h3 : (i * 5 + f) % 5 = f := by omega
    rw [if_pos rfl, h2, h3, updR_same]
  · rw [if_neg e]
    by_cases e2 : j / 5 = i
    · rw [e2, updR_same, hx (j % 5) (Nat.mod_lt _ (by omega)) (by omega)]
    · rw [updR_other _ _ e2]

theorem RefAt.set (H : RefAt w L n R c h) (i f : Nat) (x : RW) (hi : i < n) (hf : f < 5) (hx : ∀ g, g < 5 → g ≠ f → fld x g = fld (R i) g) : RefAt (w.setCell ⟨L.gb, i * 5 + f, none⟩ (fld x f)) L n (updR R i x) c h := by
  have e := H.some_of_pos (Nat.zero_lt_of_lt hi)
  have hrow := H.row
  rw [e] at hrow
  refine ⟨?_, ?_, H.place, H.len⟩
  · rw [Below.heap_setCell _ _ _ _ (H.gb_rb e).symm]; exact H.obj
  · have := (hrow.stored (i * 5 + f) (fld x f)).1
    rw [e, ← refRow_set n R i f x hf hx]
    exact this

theorem ownsRow_of_block5 {w w' : World} {e s : Nat} {v : Value} {n : Nat} {xs : List Value} (h : w.ownsRow 0 e s v n xs) (hb : ∀ g, v.ownBlock = some g → w'.heap[g]? = w.heap[g]?) : w'.ownsRow 0 e s v n xs := by
  refine ⟨h.1, ?_⟩
  rcases h.2 with h2 | ⟨g, cap, cur, rfl, r1, r2, r3⟩
  · exact .inl h2
  · exact .inr ⟨g, cap, cur, rfl, r1, (hb g rfl).trans r2, r3⟩

theorem RefAt.row_of (H : RefAt w L n R c h) (hb : L.sp = some ⟨L.gb, 0, none⟩ → w'.heap[L.gb]? = w.heap[L.gb]?) : w'.ownsRow 0 71 5 (.slice L.sp n L.cap) n (refRow n R) :=
  ownsRow_of_block5 H.row fun g hg => by
    rcases H.place with ⟨e, _⟩ | e
    · rw [e] at hg; cases hg
    · rw [e] at hg; cases hg; exact hb e

theorem RefAt.of_blocks (H : RefAt w L n R c h) (hb : ∀ k ∈ L.blocks, k < w.heap.size → w'.heap[k]? = w.heap[k]?) : RefAt w' L n R c h where
  obj := (hb _ (by simp [RLay.blocks]) H.lt).trans H.obj
  row := H.row_of fun e => by
    obtain ⟨cur, hc⟩ := H.rowAt e
    exact hb _ (by simp [RLay.blocks]) (Array.getElem?_eq_some_iff.1 hc).1
  place := H.place
  len := H.len

theorem RefAt.fields (H : RefAt w L n R c h) {c' : Nat} {h' : Int} (ho : w'.heap[L.rb]? = some (robj L n c' h')) (hb : ∀ k, k ≠ L.rb → w'.heap[k]? = w.heap[k]?) : RefAt w' L n R c' h' where
  obj := ho
  row := H.row_of fun e => hb _ (H.gb_rb e)
  place := H.place
  len := H.len

theorem rheap1 (ho : w.heap[L.rb]? = some (robj L n c h)) (c' : Nat) : (w.setCell ⟨L.rb, 1, none⟩ (.int .i64 c')).heap[L.rb]? = some (robj L n c' h) := by
  simp [World.setCell, Array.getElem?_modify, ho, robj]
theorem rheap2 (ho : w.heap[L.rb]? = some (robj L n c h)) (h' : Int) : (w.setCell ⟨L.rb, 2, none⟩ (.int .i64 h')).heap[L.rb]? = some (robj L n c h') := by
  simp [World.setCell, Array.getElem?_modify, ho, robj]

theorem RefAt.all_lt (H : RefAt w L n R c h) : ∀ k ∈ L.blocks, k < w.heap.size := by
  have hs : L.gb < w.heap.size := by
    rcases H.place with ⟨_, e⟩ | e
    · rw [e]; exact H.lt
    · obtain ⟨cur, hb⟩ := H.rowAt e
      exact (Array.getElem?_eq_some_iff.1 hb).1
  have h1 := H.lt
  intro k hk
  simp only [RLay.blocks, List.mem_cons, List.not_mem_nil, or_false] at hk
  rcases hk with rfl | rfl <;> assumption
theorem RefAt.drew (H : RefAt w L n R c h) : RefAt w.drew L n R c h := ⟨H.obj, H.row, H.place, H.len⟩
end

/-- Where the document's memory stands still: below 0: nowhere. -/
def haltOf (M : Mem) : Int := if M.stops = true then M.stopAt else -1

/-- The document's words are those of M. -/
structure Words (M : Mem) (R : Nat → RW) : Prop where
  sure : ∀ i, i < M.sure.length → (R i).sure = M.sure.getD i 0
  now : ∀ i : Nat, i < M.sure.length → (R i).now = M.read i
  loose : ∀ i : Nat, i < M.sure.length → (R i).loose = (M.loose i).isSome
  goes : ∀ i : Nat, i < M.sure.length → (R i).goes = (M.way i).isSome
  way : ∀ (i : Nat) v, i < M.sure.length → M.way i = some v → (R i).way = v

/-- What is on the way is loose; a memory that stops does so at a call. -/
structure Sound (M : Mem) : Prop where
  way : ∀ k, (M.way k).isSome = true → (M.loose k).isSome = true
  stop : M.stops = true → 0 ≤ M.stopAt
  looseIn : ∀ k v, M.loose k = some v → 0 ≤ k ∧ k < M.sure.length

/-- The document's memory, in the same words as the program's. -/
def RefIs (w : World) (L : RLay) (M : Mem) : Prop := ∃ R, RefAt w L M.sure.length R M.calls (haltOf M) ∧ Words M R ∧ Sound M

theorem RefIs.of_blocks {w w' : World} {L : RLay} {M : Mem} (h : RefIs w L M) (hb : ∀ k ∈ L.blocks, k < w.heap.size → w'.heap[k]? = w.heap[k]?) : RefIs w' L M := let ⟨R, h1, h2⟩ := h; ⟨R, h1.of_blocks hb, h2⟩
theorem RefIs.all_lt {w : World} {L : RLay} {M : Mem} (h : RefIs w L M) : ∀ k ∈ L.blocks, k < w.heap.size := let ⟨_, h1, _⟩ := h; h1.all_lt
theorem RefIs.kept {w w' : World} {L : RLay} {M : Mem} {S : List Nat} (h : RefIs w L M) (ho : Only S w w') (hS : ∀ k ∈ L.blocks, k ∉ S) : RefIs w' L M := h.of_blocks fun k hk hl => ho.block k hl (hS k hk)
theorem RefIs.below {w w' : World} {L : RLay} {M : Mem} {B : Nat} (h : RefIs w L M) (hb : Below B w w') (hB : ∀ k ∈ L.blocks, k < B) : RefIs w' L M := h.of_blocks fun k hk _ => hb.block k (hB k hk)
theorem RefIs.drew {w : World} {L : RLay} {M : Mem} (h : RefIs w L M) : RefIs w.drew L M := let ⟨R, h1, h2⟩ := h; ⟨R, h1.drew, h2⟩

theorem ronly_sub {L : RLay} {b : Nat} {w w' : World} (h : Only [b] w w') (hb : b ∈ L.blocks) : Only L.blocks w w' := h.mono (fun k hk => by cases List.mem_singleton.1 hk; exact hb)

theorem call_ref (L : RLay) (M : Mem) (w : World) (H : RefIs w L M) (hc : M.calls < 1000000000) :
    Calls Try.prog 47 #[.pointer (some ⟨L.rb, 0, none⟩)] w fun e w' => e = .returned (.int .i64 M.err) ∧ RefIs w' L M.counted ∧ Only [L.rb] w w' := by
  obtain ⟨R, h, hW, hS⟩ := H
  have c1 := h.c1
  have f1 := h.fz 1
  have hst := hS.stop
  have e1 : ((M.calls : Int) + 1) = ((M.calls + 1 : Nat) : Int) := by omega
  have h1 : RefAt (w.setCell ⟨L.rb, 1, none⟩ (.int .i64 ((M.calls : Int) + 1))) L M.sure.length R (M.calls + 1) (haltOf M) := by
    rw [e1]; exact h.fields (rheap1 h.obj _) (fun k hk => Below.heap_setCell _ _ _ _ hk)
  have c2 := h1.c2
  have fin : RefIs (w.setCell ⟨L.rb, 1, none⟩ (.int .i64 ((M.calls : Int) + 1))) L M.counted ∧ Only [L.rb] w (w.setCell ⟨L.rb, 1, none⟩ (.int .i64 ((M.calls : Int) + 1))) :=
    ⟨⟨R, h1, ⟨hW.sure, hW.now, hW.loose, hW.goes, hW.way⟩, ⟨hS.way, hS.stop, hS.looseIn⟩⟩, (Only.refl _ _).setCell (by simp) _⟩
  have FIN : Hid _ := fin
  clear fin h1 hW hS h e1
  cases hs : M.stops with
  | false =>
    have hh : haltOf M = -1 := by simp [haltOf, hs]
    have herr : M.err = 0 := by simp [Mem.err, Mem.still, hs]
    rw [hh] at c2
    rw [herr]
    go_enter Try.func47, Try.ntmps47
    go_wp2
    go_ret
    exact ⟨rfl, FIN.out⟩
  | true =>
    have hh : haltOf M = M.stopAt := by simp [haltOf, hs]
    have h0 := hst hs
    rw [hh] at c2
    by_cases ht : M.stopAt ≤ M.calls
    · have herr : M.err = 14 := by simp [Mem.err, Mem.still, hs, ht]
      rw [herr]
      go_enter Try.func47, Try.ntmps47
      go_wp2
      go_ret
      exact ⟨rfl, FIN.out⟩
    · have herr : M.err = 0 := by simp [Mem.err, Mem.still, hs, ht]
      rw [herr]
      go_enter Try.func47, Try.ntmps47
      go_wp2
      go_ret
      exact ⟨rfl, FIN.out⟩

theorem there_ref (L : RLay) (M : Mem) (k : Int) (w : World) (H : RefIs w L M) :
    Calls Try.prog 48 #[.pointer (some ⟨L.rb, 0, none⟩), .int .i64 k] w fun e w' => e = .returned (.bool (M.has k)) ∧ w' = w := by
  obtain ⟨R, h, hW, hS⟩ := H
  have c0 := h.c0
  clear h hW hS
  by_cases h0 : 0 ≤ k
  · go_enter Try.func48, Try.ntmps48
    go_wp2
    all_goals
      go_ret
      exact ⟨ret_bool (by simp [Mem.has, *]), rfl⟩
  · go_enter Try.func48, Try.ntmps48
    go_wp2
    go_ret
    exact ⟨ret_bool (by simp [Mem.has]; omega), rfl⟩

end Go.Proofs.Ytoabgkkfhoiagaa
