/- Contracts of the view's Set. -/
import Derived.Test.YtdjnkibnnjobpaaVwC
namespace Go.Proofs.Ytdjnkibnnjobpaa
open Go.RowKit Go.Maps Go.ChangeMaps

theorem push_modify {α : Type} (xs : Array α) (x : α) (g : α → α) : (xs.push x).modify xs.size g = xs.push (g x) := by
  apply Array.ext
  · simp
  · intro i h1 h2
    rw [Array.getElem_modify, Array.getElem_push, Array.getElem_push]
    by_cases e : i < xs.size
    · simp [e, show ¬ xs.size = i by omega]
    · have : xs.size = i := by simp at h2; omega
      simp [this]
theorem modify_same {α : Type} (xs : Array α) (j : Nat) (g : α → α) (h : ∀ x, xs[j]? = some x → g x = x) : xs.modify j g = xs := by
  apply Array.ext
  · simp
  · intro i h1 h2
    rw [Array.getElem_modify]
    by_cases e : j = i
    · subst e
      simp only [if_pos]
      exact h _ (by simp [h2])
    · simp [e]
theorem modify_alike {α : Type} (xs : Array α) (j : Nat) (g g' : α → α) (h : ∀ x, xs[j]? = some x → g x = g' x) : xs.modify j g = xs.modify j g' := by
  apply Array.ext
  · simp
  · intro i h1 h2
    rw [Array.getElem_modify, Array.getElem_modify]
    by_cases e : j = i
    · subst e
      simp only [if_pos]
      exact h _ (by simp at h2; simp [h2])
    · simp [e]
/-- Which entry bears a stamp. -/
theorem stamp_new {es : Array MapEntry} {clock : Nat} (h : ∀ x ∈ es.toList, x.born < clock) (k z : Value) : (es.push ⟨k, z, clock⟩).findIdx? (fun e => ((e.born : Nat) : Int) == (clock : Int)) = some es.size := by
  rw [Array.findIdx?_push]
  have : es.findIdx? (fun e => ((e.born : Nat) : Int) == (clock : Int)) = none := by
    rw [Array.findIdx?_eq_none_iff]
    intro x hx
    have := h x (by simpa using hx)
    simp; omega
  simp [this]
theorem stamp_old {es : Array MapEntry} (h : (es.toList.map (·.born)).Nodup) {j : Nat} {e0 : MapEntry} (hj : es[j]? = some e0) : es.findIdx? (fun e => ((e.born : Nat) : Int) == ((e0.born : Nat) : Int)) = some j := by
  obtain ⟨hl, he⟩ := Array.getElem?_eq_some_iff.1 hj
  rw [Array.findIdx?_eq_some_iff_getElem]
  refine ⟨hl, by simp [he], fun i hi => ?_⟩
  intro hp
  have hp : es[i].born = e0.born := by simp at hp; omega
  have hn := List.pairwise_iff_getElem.1 h i j (by simp; omega) (by simpa using hl) hi
  apply hn
  simp [he, hp]
/-- A set's entry, and what is stored in it, one behind the other. -/
theorem SetIs.entry {w : World} {b n : Nat} {s : Int → Bool} (h : SetIs w b n s) (hn : n < maxLen) {k : Int} (hwk : (Lit.int .i64 k).wf = true) :
    ∃ (v0 : Value) (st : Nat) (w1 w2 : World), (Instr.mapEntry 66 (.map (some b)) (.int .i64 k)).run Try.prog w = .ok (.tuple #[v0, .int .i64 st]) w1 ∧ (Instr.entryStore 66 (.map (some b)) (.int .i64 st) (.bool true)).run Try.prog w1 = .ok () w2 ∧ SetIs w2 b (n + 1) (addB s k) ∧ Only [b] w w1 ∧ Only [b] w w2 := by
  obtain ⟨D, hown, hr⟩ := h
  have hmap := hown.isMap
  have hkey := keyOf_int_mk Try.underlying3 hwk
  obtain ⟨wu, hu1, hu2, hu3⟩ := hown.store law3 Try.underlying66 hn hkey (plainElem_bool Try.underlying4 true)
  have hS : SetIs wu b (n + 1) (addB s k) := ⟨_, hu2, sreads_put hr hmap k⟩
  have hO : Only [b] w wu := (Only.refl _ _).turned hu3 (by simp)
  obtain ⟨es, clock, hb, Ft, hs, rfl⟩ := hown
  obtain ⟨s1, s2, _⟩ := Ft.stamped
  rcases law3.find w hkey es.toList Ft.keys with ⟨h1, h2⟩ | ⟨j, e0, h1, h2, h3⟩
  · have g1 : Only [b] w (setBlock w b (.map (es.push ⟨.int .i64 k, .bool false, clock⟩) (clock + 1))) := (Only.refl _ _).turned ⟨es, clock, _, _, hb, rfl⟩ (by simp)
    have hb1 : (setBlock w b (.map (es.push ⟨.int .i64 k, .bool false, clock⟩) (clock + 1))).heap[b]? = some (.map (es.push ⟨.int .i64 k, .bool false, clock⟩) (clock + 1)) := heap_setBlock_same hb _
    have hw2 : wu = setBlock (setBlock w b (.map (es.push ⟨.int .i64 k, .bool false, clock⟩) (clock + 1))) b (.map (es.push ⟨.int .i64 k, .bool true, clock⟩) (clock + 1)) := by
      simp [Instr.mapUpdate, run_underlying Try.underlying66, MapKept.run_getObj_map hb, law3.check w false hkey, h1, MapKept.run_setObj_map _ hb, Result.andThen] at hu1
      rw [← hu1]
      simp [setBlock]
    have hE : (Instr.mapEntry 66 (.map (some b)) (.int .i64 k)).run Try.prog w = .ok (.tuple #[.bool false, .int .i64 clock]) (setBlock w b (.map (es.push ⟨.int .i64 k, .bool false, clock⟩) (clock + 1))) := by
      simp [Instr.mapEntry, run_underlying Try.underlying66, MapKept.run_getObj_map hb, law3.check w false hkey, h1, MapKept.run_setObj_map _ hb, Result.andThen, setBlock, goInt]
    obtain ⟨W1, hW1⟩ : ∃ W1, setBlock w b (.map (es.push ⟨.int .i64 k, .bool false, clock⟩) (clock + 1)) = W1 := ⟨_, rfl⟩
    rw [hW1] at hE hw2 g1 hb1
    refine ⟨.bool false, clock, W1, wu, hE, ?_, hS, g1, hO⟩
    rw [hw2]
    simp [Instr.entryStore, MapKept.run_getObj_map hb1, asInt, asIntOf, stamp_new s1, push_modify, MapKept.run_setObj_map _ hb1, Result.andThen, setBlock]
  · have hj : es[j]? = some e0 := by simpa using h2
    have m1 : es.modify j (fun e => { e with key := .int .i64 k }) = es := modify_same _ _ _ fun x hx => by
      rw [hj] at hx
      cases hx
      rw [← h3]
    have g1 : Only [b] w (setBlock w b (.map es clock)) := (Only.refl _ _).turned ⟨es, clock, _, _, hb, rfl⟩ (by simp)
    have hb1 : (setBlock w b (.map es clock)).heap[b]? = some (.map es clock) := heap_setBlock_same hb _
    have m2 : es.modify j (fun e => { e with val := .bool true }) = es.modify j (fun e => { e with key := .int .i64 k, val := .bool true }) := modify_alike _ _ _ _ fun x hx => by
      rw [hj] at hx
      cases hx
      rw [← h3]
    have hw2 : wu = setBlock (setBlock w b (.map es clock)) b (.map (es.modify j (fun e => { e with key := .int .i64 k, val := .bool true })) clock) := by
      simp [Instr.mapUpdate, run_underlying Try.underlying66, MapKept.run_getObj_map hb, law3.check w false hkey, h1, hj, h3, law3.stays w hkey, MapKept.run_setObj_map _ hb, Result.andThen] at hu1
      rw [← hu1]
      simp [setBlock]
    have hE : (Instr.mapEntry 66 (.map (some b)) (.int .i64 k)).run Try.prog w = .ok (.tuple #[e0.val, .int .i64 e0.born]) (setBlock w b (.map es clock)) := by
      simp [Instr.mapEntry, run_underlying Try.underlying66, MapKept.run_getObj_map hb, law3.check w false hkey, h1, hj, h3, law3.stays w hkey, m1, MapKept.run_setObj_map _ hb, Result.andThen, setBlock, goInt]
    obtain ⟨W1, hW1⟩ : ∃ W1, setBlock w b (.map es clock) = W1 := ⟨_, rfl⟩
    rw [hW1] at hE hw2 g1 hb1
    refine ⟨e0.val, e0.born, W1, wu, hE, ?_, hS, g1, hO⟩
    rw [hw2]
    simp [Instr.entryStore, MapKept.run_getObj_map hb1, asInt, asIntOf, stamp_old s2 hj, m2, MapKept.run_setObj_map _ hb1, Result.andThen, setBlock]

/-- The words of a card, as a row. -/
def cardRow (k l s v d0 d1 d2 d3 d4 m : Int) (i : Nat) : Int := if i = 0 then Cd.wd0 k l s else if i = 1 then v else if i = 2 then Cd.wd2 d0 d1 d2 d3 else if i = 3 then Cd.wd3 d4 m else 0
theorem card_open {node : Int} (h0 : 0 ≤ node) (h1 : node < 24) : ∀ j : Int, 8 + 8 * node ≤ j → j < 8 + 8 * node + ((8 : Nat) : Int) → openI j := fun j _ _ => by unfold openI; omega
theorem wordsRow8 {w : World} {g : Nat} {k l s v d0 d1 d2 d3 d4 m : Int} (h : Cd.Row8 w g (Cd.wd0 k l s) v (Cd.wd2 d0 d1 d2 d3) (Cd.wd3 d4 m) 0 0 0 0) : Words w g 0 8 (cardRow k l s v d0 d1 d2 d3 d4 m) := by
  obtain ⟨e0, e1, e2, e3, e4, e5, e6, e7⟩ := h
  intro i hi
  rw [Nat.zero_add]
  match i, hi with
  | 0, _ => exact e0
  | 1, _ => exact e1
  | 2, _ => exact e2
  | 3, _ => exact e3
  | 4, _ => exact e4
  | 5, _ => exact e5
  | 6, _ => exact e6
  | 7, _ => exact e7

end Go.Proofs.Ytdjnkibnnjobpaa
