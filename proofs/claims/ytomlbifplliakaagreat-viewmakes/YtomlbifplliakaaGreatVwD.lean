/- Contracts of the view's Set. -/
import Derived.Test.YtomlbifplliakaaGreatVwC
namespace Go.Proofs.YtomlbifplliakaaGreat
open Go.RowKit Go.Maps Go.ChangeMaps

theorem push_modify {α : Type} (xs : Array α) (x : α) (g : α → α) : (xs.push x).modify xs.size g = xs.push (g x) := by
  apply Array.ext
  · simp
  · intro i h1 h2
    rw [Array.getElem_modify, Array.getElem_push, Array.getElem_push]
    by_cases e : i < xs.size
    · simp [e, show ¬ xs.size = i by omega]
    · have : xs.size = i := by simp at h2; omega
      simp [this]
theorem modify_same {α : Type} (xs : Array α) (j : Nat) (g : α → α) (h : ∀ x, xs[j]? = some x → g x = x) : xs.modify j g = xs := by
  apply Array.ext
  · simp
  · intro i h1 h2
    rw [Array.getElem_modify]
    by_cases e : j = i
    · subst e
      simp only [if_pos]
      exact h _ (by simp [h2])
    · simp [e]
theorem modify_alike {α : Type} (xs : Array α) (j : Nat) (g g' : α → α) (h : ∀ x, xs[j]? = some x → g x = g' x) : xs.modify j g = xs.modify j g' := by
  apply Array.ext
  · simp
  · intro i h1 h2
    rw [Array.getElem_modify, Array.getElem_modify]
    by_cases e : j = i
    · subst e
      simp only [if_pos]
      exact h _ (by simp at h2; simp [h2])
    · simp [e]
/-- Which entry bears a stamp. -/
theorem stamp_new {es : Array MapEntry} {clock : Nat} (h : ∀ x ∈ es.toList, x.born < clock) (k z : Value) : (es.push ⟨k, z, clock⟩).findIdx? (fun e => ((e.born : Nat) : Int) == (clock : Int)) = some es.size := by
  rw [Array.findIdx?_push]
  have : es.findIdx? (fun e => ((e.born : Nat) : Int) == (clock : Int)) = none := by
    rw [Array.findIdx?_eq_none_iff]
    intro x hx
    have := h x (by simpa using hx)
    simp; omega
  simp [this]
theorem stamp_old {es : Array MapEntry} (h : (es.toList.map (·.born)).Nodup) {j : Nat} {e0 : MapEntry} (hj : es[j]? = some e0) : es.findIdx? (fun e => ((e.born : Nat) : Int) == ((e0.born : Nat) : Int)) = some j := by
  obtain ⟨hl, he⟩ := Array.getElem?_eq_some_iff.1 hj
  rw [Array.findIdx?_eq_some_iff_getElem]
  refine ⟨hl, by simp [he], fun i hi => ?_⟩
  intro hp
  have hp : es[i].born = e0.born := by simp at hp; omega
  have hn := List.pairwise_iff_getElem.1 h i j (by simp; omega) (by simpa using hl) hi
  apply hn
  simp [he, hp]
/-- A set's entry, and what is stored in it, one behind the other. -/
theorem SetIs.entry {w : World} {b n : Nat} {s : Int → Bool} (h : SetIs w b n s) (hn : n < maxLen) {k : Int} (hwk : (Lit.int .i64 k).wf = true) :
    ∃ (v0 : Value) (st : Nat) (w1 w2 : World), (Instr.mapEntry 60 (.map (some b)) (.int .i64 k)).run Tryz.prog w = .ok (.tuple #[v0, .int .i64 st]) w1 ∧ (Instr.entryStore 60 (.map (some b)) (.int .i64 st) (.bool true)).run Tryz.prog w1 = .ok () w2 ∧ SetIs w2 b (n + 1) (addB s k) ∧ Only [b] w w1 ∧ Only [b] w w2 := by
  obtain ⟨D, hown, hr⟩ := h
  have hmap := hown.isMap
  have hkey := keyOf_int_mk Tryz.underlying3 hwk
  obtain ⟨wu, hu1, hu2, hu3⟩ := hown.store law3 Tryz.underlying60 hn hkey (plainElem_bool Tryz.underlying4 true)
  have hS : SetIs wu b (n + 1) (addB s k) := ⟨_, hu2, sreads_put hr hmap k⟩
  have hO : Only [b] w wu := (Only.refl _ _).turned hu3 (by simp)
  obtain ⟨es, clock, hb, Ft, hs, rfl⟩ := hown
  obtain ⟨s1, s2, _⟩ := Ft.stamped
  rcases law3.find w hkey es.toList Ft.keys with ⟨h1, h2⟩ | ⟨j, e0, h1, h2, h3⟩
  · have g1 : Only [b] w (setBlock w b (.map (es.push ⟨.int .i64 k, .bool false, clock⟩) (clock + 1))) := (Only.refl _ _).turned ⟨es, clock, _, _, hb, rfl⟩ (by simp)
    have hb1 : (setBlock w b (.map (es.push ⟨.int .i64 k, .bool false, clock⟩) (clock + 1))).heap[b]? = some (.map (es.push ⟨.int .i64 k, .bool false, clock⟩) (clock + 1)) := heap_setBlock_same hb _
    have hw2 : wu = setBlock (setBlock w b (.map (es.push ⟨.int .i64 k, .bool false, clock⟩) (clock + 1))) b (.map (es.push ⟨.int .i64 k, .bool true, clock⟩) (clock + 1)) := by
      simp [Instr.mapUpdate, run_underlying Tryz.underlying60, MapKept.run_getObj_map hb, law3.check w false hkey, h1, MapKept.run_setObj_map _ hb, Result.andThen] at hu1
      rw [← hu1]
      simp [setBlock]
    have hE : (Instr.mapEntry 60 (.map (some b)) (.int .i64 k)).run Tryz.prog w = .ok (.tuple #[.bool false, .int .i64 clock]) (setBlock w b (.map (es.push ⟨.int .i64 k, .bool false, clock⟩) (clock + 1))) := by
      simp [Instr.mapEntry, run_underlying Tryz.underlying60, MapKept.run_getObj_map hb, law3.check w false hkey, h1, MapKept.run_setObj_map _ hb, Result.andThen, setBlock, goInt]
    obtain ⟨W1, hW1⟩ : ∃ W1, setBlock w b (.map (es.push ⟨.int .i64 k, .bool false, clock⟩) (clock + 1)) = W1 := ⟨_, rfl⟩
    rw [hW1] at hE hw2 g1 hb1
    refine ⟨.bool false, clock, W1, wu, hE, ?_, hS, g1, hO⟩
    rw [hw2]
    simp [Instr.entryStore, MapKept.run_getObj_map hb1, asInt, asIntOf, stamp_new s1, push_modify, MapKept.run_setObj_map _ hb1, Result.andThen, setBlock]
  · have hj : es[j]? = some e0 := by simpa using h2
    have m1 : es.modify j (fun e => { e with key := .int .i64 k }) = es := modify_same _ _ _ fun x hx => by
      rw [hj] at hx
      cases hx
      rw [← h3]
    have g1 : Only [b] w (setBlock w b (.map es clock)) := (Only.refl _ _).turned ⟨es, clock, _, _, hb, rfl⟩ (by simp)
    have hb1 : (setBlock w b (.map es clock)).heap[b]? = some (.map es clock) := heap_setBlock_same hb _
    have m2 : es.modify j (fun e => { e with val := .bool true }) = es.modify j (fun e => { e with key := .int .i64 k, val := .bool true }) := modify_alike _ _ _ _ fun x hx => by
      rw [hj] at hx
      cases hx
      rw [← h3]
    have hw2 : wu = setBlock (setBlock w b (.map es clock)) b (.map (es.modify j (fun e => { e with key := .int .i64 k, val := .bool true })) clock) := by
      simp [Instr.mapUpdate, run_underlying Tryz.underlying60, MapKept.run_getObj_map hb, law3.check w false hkey, h1, hj, h3, law3.stays w hkey, MapKept.run_setObj_map _ hb, Result.andThen] at hu1
      rw [← hu1]
      simp [setBlock]
    have hE : (Instr.mapEntry 60 (.map (some b)) (.int .i64 k)).run Tryz.prog w = .ok (.tuple #[e0.val, .int .i64 e0.born]) (setBlock w b (.map es clock)) := by
      simp [Instr.mapEntry, run_underlying Tryz.underlying60, MapKept.run_getObj_map hb, law3.check w false hkey, h1, hj, h3, law3.stays w hkey, m1, MapKept.run_setObj_map _ hb, Result.andThen, setBlock, goInt]
    obtain ⟨W1, hW1⟩ : ∃ W1, setBlock w b (.map es clock) = W1 := ⟨_, rfl⟩
    rw [hW1] at hE hw2 g1 hb1
    refine ⟨e0.val, e0.born, W1, wu, hE, ?_, hS, g1, hO⟩
    rw [hw2]
    simp [Instr.entryStore, MapKept.run_getObj_map hb1, asInt, asIntOf, stamp_old s2 hj, m2, MapKept.run_setObj_map _ hb1, Result.andThen, setBlock]

theorem vset_node (V : VLay) (S : Vw) (N : Nat) (node : Int) (k l s v d0 d1 d2 d3 d4 m : Int) (w : World) (h : ViewIs w V S N) (hn : node < 0 ∨ 24 ≤ node) :
    Calls Tryz.prog 33 #[.pointer (some ⟨V.vb, 0, none⟩), .int .i64 node, .agg #[.int .i64 k, .int .i64 l, .int .i64 s, .int .u64 v, .int .i64 d0, .int .i64 d1, .int .i64 d2, .int .i64 d3, .int .i64 d4, .int .i64 m]] w fun e w' => e = .returned (.int .i64 1) ∧ Below w.heap.size w w' := by
  have HC : Hid (∀ w, Calls Tryz.prog 56 #[.int .i64 node] w fun e w' => e = .returned (.tuple #[.int .i64 0, .int .i64 1]) ∧ w' = w) := fun w => card_no node w hn
  clear hn
  go_enter Tryz.func33, Tryz.ntmps33
  go_wp2_with fail
  obtain ⟨Y, hY, YS, YE, YC⟩ := Cd.new_card w k l s v d0 d1 d2 d3 d4 m
  rw [hY]
  clear hY
  have hB : Below w.heap.size w Y := YE.out Y (Below.refl _ _)
  have HV : Hid (ViewIs Y V S N) := h.later hB
  refine Calls.mono (HC.out _) ?_
  rintro e w' ⟨rfl, hw⟩
  obtain rfl := hw.symm
  go_wp2_with (first
    | (go_at_call 47; refine (void_any V S N _ HV.out).mono ?_; rintro e w' ⟨rfl, hw⟩; obtain rfl := hw.symm)
    | go_in)
  go_ret
  exact ⟨rfl, hB⟩

theorem vset_card (V : VLay) (S : Vw) (N : Nat) (node : Int) (k l s v d0 d1 d2 d3 d4 m : Int) (w : World) (h : ViewIs w V S N) (h0 : 0 ≤ node) (h1 : node < 24) (hr : ¬ Cd.Rt k l s d0 d1 d2 d3 d4 m) :
    Calls Tryz.prog 33 #[.pointer (some ⟨V.vb, 0, none⟩), .int .i64 node, .agg #[.int .i64 k, .int .i64 l, .int .i64 s, .int .u64 v, .int .i64 d0, .int .i64 d1, .int .i64 d2, .int .i64 d3, .int .i64 d4, .int .i64 m]] w fun e w' => e = .returned (.int .i64 1) ∧ Below w.heap.size w w' := by
  have HC : Hid (∀ w, Calls Tryz.prog 56 #[.int .i64 node] w fun e w' => e = .returned (.tuple #[.int .i64 (8 + 8 * node), .int .i64 0]) ∧ w' = w) := fun w => card_at node w h0 h1
  have HW : Hid (∀ w, Calls Tryz.prog 60 #[.agg #[.int .i64 k, .int .i64 l, .int .i64 s, .int .u64 v, .int .i64 d0, .int .i64 d1, .int .i64 d2, .int .i64 d3, .int .i64 d4, .int .i64 m]] w fun e w' => e = .returned (.tuple #[.slice none 0 0, .int .i64 1]) ∧ Below w.heap.size w w') := fun w => Cd.write_no k l s v d0 d1 d2 d3 d4 m w hr
  clear hr
  go_enter Tryz.func33, Tryz.ntmps33
  go_wp2_with fail
  obtain ⟨Y, hY, YS, YE, YC⟩ := Cd.new_card w k l s v d0 d1 d2 d3 d4 m
  rw [hY]
  clear hY
  have hB : Below w.heap.size w Y := YE.out Y (Below.refl _ _)
  have HV : Hid (ViewIs Y V S N) := h.later hB
  obtain ⟨c0, c1, c2, c3, c4, c5, c6, c7, c8, c9⟩ := YC.out Y (Below.refl _ _)
  refine Calls.mono (HC.out _) ?_
  rintro e w' ⟨rfl, hw⟩
  obtain rfl := hw.symm
  go_wp2_with (first
    | (go_at_call 47; refine (void_any V S N _ HV.out).mono ?_; rintro e w' ⟨rfl, hw⟩; obtain rfl := hw.symm)
    | (go_at_call 60; refine Calls.mono (HW.out _) ?_; rintro e w2 ⟨rfl, hb⟩)
    | go_in)
  go_ret
  exact ⟨rfl, hB.trans (hb.mono hB.size)⟩

/-- The words of a card, as a row. -/
def cardRow (k l s v d0 d1 d2 d3 d4 m : Int) (i : Nat) : Int := if i = 0 then Cd.wd0 k l s else if i = 1 then v else if i = 2 then Cd.wd2 d0 d1 d2 d3 else if i = 3 then Cd.wd3 d4 m else 0
theorem card_open {node : Int} (h0 : 0 ≤ node) (h1 : node < 24) : ∀ j : Int, 8 + 8 * node ≤ j → j < 8 + 8 * node + ((8 : Nat) : Int) → openI j := fun j _ _ => by unfold openI; omega
theorem wordsRow8 {w : World} {g : Nat} {k l s v d0 d1 d2 d3 d4 m : Int} (h : Cd.Row8 w g (Cd.wd0 k l s) v (Cd.wd2 d0 d1 d2 d3) (Cd.wd3 d4 m) 0 0 0 0) : Words w g 0 8 (cardRow k l s v d0 d1 d2 d3 d4 m) := by
  obtain ⟨e0, e1, e2, e3, e4, e5, e6, e7⟩ := h
  intro i hi
  rw [Nat.zero_add]
  match i, hi with
  | 0, _ => exact e0
  | 1, _ => exact e1
  | 2, _ => exact e2
  | 3, _ => exact e3
  | 4, _ => exact e4
  | 5, _ => exact e5
  | 6, _ => exact e6
  | 7, _ => exact e7

set_option maxHeartbeats 1000000 in
theorem vset_yes (V : VLay) (S : Vw) (N : Nat) (node : Int) (k l s v d0 d1 d2 d3 d4 m : Int) (w : World) (h : ViewIs w V S N) (hN : N < 900000000) (h0 : 0 ≤ node) (h1 : node < 24) (hr : Cd.Rt k l s d0 d1 d2 d3 d4 m) (hwf : ∀ i, i < 8 → (Lit.int .u64 (cardRow k l s v d0 d1 d2 d3 d4 m i)).wf = true) :
    Calls Tryz.prog 33 #[.pointer (some ⟨V.vb, 0, none⟩), .int .i64 node, .agg #[.int .i64 k, .int .i64 l, .int .i64 s, .int .u64 v, .int .i64 d0, .int .i64 d1, .int .i64 d2, .int .i64 d3, .int .i64 d4, .int .i64 m]] w fun e w' => e = .returned (.int .i64 0) ∧ ViewIs w' V { S with own := rowOwn S.own (8 + 8 * node) (cardRow k l s v d0 d1 d2 d3 d4 m) 8, seen := addB S.seen node, mine := addB S.mine node } (N + 10) ∧ Only [V.ob, V.sb, V.nb] w w' := by
  have HC : Hid (∀ w, Calls Tryz.prog 56 #[.int .i64 node] w fun e w' => e = .returned (.tuple #[.int .i64 (8 + 8 * node), .int .i64 0]) ∧ w' = w) := fun w => card_at node w h0 h1
  have HW : Hid (∀ w, Calls Tryz.prog 60 #[.agg #[.int .i64 k, .int .i64 l, .int .i64 s, .int .u64 v, .int .i64 d0, .int .i64 d1, .int .i64 d2, .int .i64 d3, .int .i64 d4, .int .i64 m]] w fun e w' => Cd.Wrote w w' e k l s v d0 d1 d2 d3 d4 m) := fun w => Cd.write_yes k l s v d0 d1 d2 d3 d4 m w hr
  have HF : Hid (∀ i, i < 8 → (Lit.int .u64 (cardRow k l s v d0 d1 d2 d3 d4 m i)).wf = true) := hwf
  have HLT : Hid (∀ j ∈ V.all, j < w.heap.size) := h.all_lt
  have hwk : (Lit.int .i64 node).wf = true := WalkArith.wf_i64 (by omega)
  clear hr hwf
  go_enter Tryz.func33, Tryz.ntmps33
  go_wp2_with fail
  obtain ⟨Y, hY, YS, YE, YC⟩ := Cd.new_card w k l s v d0 d1 d2 d3 d4 m
  rw [hY]
  clear hY
  have hB : Below w.heap.size w Y := YE.out Y (Below.refl _ _)
  have HV : Hid (ViewIs Y V S N) := h.later hB
  have HB : Hid (Below w.heap.size w Y) := hB
  obtain ⟨c0, c1, c2, c3, c4, c5, c6, c7, c8, c9⟩ := YC.out Y (Below.refl _ _)
  clear hB
  refine Calls.mono (HC.out _) ?_
  rintro e w' ⟨rfl, hw⟩
  obtain rfl := hw.symm
  go_wp2_with (first
    | (go_at_call 47; refine (void_any V S N _ HV.out).mono ?_; rintro e w' ⟨rfl, hw⟩; obtain rfl := hw.symm)
    | (go_at_call 60; refine Calls.mono (HW.out _) ?_; rintro e w2 ⟨g, rfl, hg1, hg2, hrow, hb⟩
       have HB2 : Hid (Below w.heap.size w w2) := HB.out.trans (hb.mono HB.out.size)
       have HV2 : Hid (ViewIs w2 V S N) := HV.out.later hb
       have HG : Hid (Y.heap.size ≤ g ∧ g < w2.heap.size) := ⟨hg1, hg2⟩
       have HR : Hid (Words w2 g 0 8 (cardRow k l s v d0 d1 d2 d3 d4 m)) := wordsRow8 hrow
       clear hg1 hg2 hrow hb c0 c1 c2 c3 c4 c5 c6 c7 c8 c9)
    | (go_at_call 61; refine (vsetRow_any V S N (8 + 8 * node) g 0 8 8 (cardRow k l s v d0 d1 d2 d3 d4 m) _ HV2.out (by omega) (by omega) (by omega) (by omega) (card_open h0 h1) (fun hm => by have := HLT.out _ hm; have := HG.out; have := HB.out.size; omega) HG.out.2 HF.out HR.out).mono ?_
       rintro e w3 ⟨rfl, hv3, ho3⟩
       have HV3 : Hid (ViewIs w3 V { S with own := rowOwn S.own (8 + 8 * node) (cardRow k l s v d0 d1 d2 d3 d4 m) 8 } (N + 8)) := hv3
       have HO3 : Hid (Only [V.ob, V.sb, V.nb] w w3) := (Only.of_below HB2.out).trans (ho3.mono (by simp))
       clear hv3 ho3
       have HVD := HV3.out.of_blocks (w' := w3.drew) (fun _ _ _ => rfl)
       obtain ⟨u0, st0, a1, a2, e1, e2, g2, o1, o2⟩ := HVD.seen.entry (by unfold maxLen; omega) hwk
       have HA2 : Hid (ViewIs a2 V _ _) := HVD.newSeen g2 (Nat.le_refl _) o2 (addB_in HVD.seenIn ⟨h0, h1⟩)
       obtain ⟨u1, st1, b1, b2, e3, e4, g4, o3, o4⟩ := HA2.out.mine.entry (by unfold maxLen; omega) hwk
       have HB4 : Hid (ViewIs b2 V _ _) := HA2.out.newMine g4 (Nat.le_refl _) o4 (addB_in HA2.out.mineIn ⟨h0, h1⟩)
       have HO4 : Hid (Only [V.ob, V.sb, V.nb] w b2) := (HO3.out.drew.trans (o2.mono (by simp))).trans (o4.mono (by simp))
       have q0 := HVD.c2
       have q1 := HVD.c3
       have q2 := HA2.out.c2
       have q3 := HA2.out.c3
       clear g2 g4 o1 o2 o3 o4 HVD)
    | go_in)
  go_region
  all_goals
    go_wp2
    go_ret
    exact ⟨rfl, HB4.out, HO4.out⟩

end Go.Proofs.YtomlbifplliakaaGreat
