/- Contract of names.Lead (slices.Concat, slices.Grow): the names of two lists, one behind the other, in new memory. -/
import Derived.Test.YtlpikfebbfcofaaDoorRefSplit
import Derived.Lib.AppendZeros
import Derived.Laws.OwnMore
namespace Go.Proofs.YtlpikfebbfcofaaDoor
open Go.RowKit

theorem grow_zero (w : World) :
    Calls Tryd.prog 36 #[.slice none 0 0, .int .i64 0] w fun e w' => e = .returned (.slice none 0 0) ∧ w' = w := by
  go_enter Tryd.func36, Tryd.ntmps36
  go_wp2
  go_ret
  exact ⟨rfl, rfl⟩

theorem below_new (w : World) (o : Obj) : Below w.heap.size w (w.drew.alloc o) :=
  (below_drew w 1).alloc (Nat.le_refl _) o

set_option maxHeartbeats 1000000 in
theorem grow_some (n : Nat) (w : World) (h0 : 0 < n) (hn : n * 16 ≤ 281474976710656) :
    Calls Tryd.prog 36 #[.slice none 0 0, .int .i64 n] w fun e w' => ∃ B c, e = .returned (.slice (some ⟨B, 0, none⟩) 0 c) ∧ n ≤ c ∧ w'.ownsRow w.heap.size 9 1 (.slice (some ⟨B, 0, none⟩) 0 c) 0 [] ∧ Below w.heap.size w w' := by
  obtain ⟨i0, hi, hz0, hz1, hz2⟩ := info_parts Tryd.info9
  have hrun := Lib.run_append_nil_zeros (P := Tryd.prog) w 23 3 23 9 i0 (.string ByteArray.empty) .i64 .i64 Tryd.underlying23 Tryd.underlying3 hi hz0 n h0 (by omega) (by omega) (by rw [hz2]; omega)
  have hge := grownCap_ge w n 0 9
  have hle := grownCap_le_maxLen w n 0 9 (by unfold maxLen; omega)
  have hcl : Hid ((w.drew.alloc (.cells (Builtin.zeroCells (Value.string ByteArray.empty).cells n ++ Builtin.zeroCells (Value.string ByteArray.empty).cells (grownCap w n 0 9 - n)) 9)).ownsRow w.heap.size 9 1 (.slice (some ⟨w.heap.size, 0, none⟩) 0 (grownCap w n 0 9)) 0 []) := by
    refine World.ownsRow_made (w := w.drew) _ _ (Nat.le_refl _) hle ?_
    rw [Array.size_append, size_zeroCells, size_zeroCells]
    show n * 1 + (grownCap w n 0 9 - n) * 1 = _
    omega
  obtain ⟨c, hc⟩ : ∃ c, grownCap w n 0 9 = c := ⟨_, rfl⟩
  obtain ⟨ob, hob⟩ : ∃ ob, Obj.cells (Builtin.zeroCells (Value.string ByteArray.empty).cells n ++ Builtin.zeroCells (Value.string ByteArray.empty).cells (grownCap w n 0 9 - n)) 9 = ob := ⟨_, rfl⟩
  rw [hob, hc] at hrun hcl
  rw [hc] at hge hle
  clear hob hc
  have HR : Hid _ := hrun
  clear hrun
  unfold maxLen at hle
  go_enter Tryd.func36, Tryd.ntmps36
  go_wp2_with (at_builtin; refine Lib.wpList_append_run _ rfl _ _ _ _ rfl _ _ rfl rfl _ _ (Hid.out HR) ?_)
  go_ret
  exact ⟨_, _, rfl, hge, hcl.out, below_new _ _⟩

/-- An append of texts to a row of its own in which there is room. -/
theorem run_append_texts (ty : TypeId) {base : Nat} {v : Value} {c : Nat} {xs ys : List ByteArray} (w : World) (hown : w.ownsRow base 9 1 v xs.length (vs xs)) (hv : ∃ a, v = .slice a xs.length c)
    (a2 : Option Addr) (c2 : Nat) (h2 : TAt w a2 ys) (hroom : xs.length + ys.length ≤ c) :
    ∃ v' w', (Builtin.append_ #[23, 23] ty #[v, .slice a2 ys.length c2]).run Tryd.prog w = .ok v' w' ∧ w'.ownsRow base 9 1 v' (xs ++ ys).length (vs (xs ++ ys)) ∧ (∃ a, v' = .slice a (xs ++ ys).length c) ∧ w.grownBy w' v.ownBlock := by
  obtain ⟨i0, hi, hz0, hz1, hz2⟩ := info_parts Tryd.info9
  have e : vs (xs ++ ys) = vs xs ++ vs ys := by simp [vs]
  rw [e, List.length_append]
  obtain ⟨a, rfl⟩ := hv
  by_cases h0 : ys = []
  · subst h0
    have hr : (Builtin.append_ #[23, 23] ty #[.slice a xs.length c, .slice a2 0 c2]).run Tryd.prog w = .ok (.slice a xs.length c) w := by
      have hle : xs.length ≤ c := by simpa using hroom
      cases a2 with
      | none =>
        cases a with
        | none => simp [Builtin.append_, run_underlying Tryd.underlying23, sizeOf, typeInfo, hi, Builtin.lenOf, Builtin.firstCells, hle]
        | some q => simp [Builtin.append_, run_underlying Tryd.underlying23, sizeOf, typeInfo, hi, Builtin.lenOf, Builtin.firstCells, hle, storeCells]
      | some q2 =>
        have hf := run_firstCells_some (P := Tryd.prog) w i0.size 0 q2 0 c2 [] (by simp) (by simp)
        cases a with
        | none => simp [Builtin.append_, run_underlying Tryd.underlying23, sizeOf, typeInfo, hi, Builtin.lenOf, hf, hle]
        | some q => simp [Builtin.append_, run_underlying Tryd.underlying23, sizeOf, typeInfo, hi, Builtin.lenOf, hf, hle, storeCells]
    refine ⟨_, _, hr, ?_, ⟨a, rfl⟩, ⟨rfl, rfl, rfl, Nat.le_refl _, fun _ _ _ => rfl⟩⟩
    simp only [vs, List.map_nil, List.append_nil, List.length_nil, Nat.add_zero]
    exact hown
  · obtain ⟨b, o, rfl, _, q⟩ := h2.resolve_left h0
    have hpos : 0 < ys.length := List.length_pos_iff.2 h0
    rcases hown.2 with ⟨hn, hx⟩ | ⟨g, cap, cur, hn, _⟩
    · simp only [Value.slice.injEq] at hn
      obtain ⟨_, hn1, rfl⟩ := hn
      omega
    · simp only [Value.slice.injEq, true_and] at hn
      obtain ⟨rfl, rfl⟩ := hn
      obtain ⟨w', hr, ho, hg⟩ := run_append_fits (P := Tryd.prog) w base 23 ty 9 i0 1 Tryd.underlying23 hi hz1 g xs.length c (vs xs) hown ⟨b, o, none⟩ ys.length c2 (vs ys) (by rw [vs_len]; omega)
        (fun j u hj => by
          have hj' : j < ys.length := by
            rcases Nat.lt_or_ge j (vs ys).length with h | h
            · rw [vs_len] at h; exact h
            · rw [List.getElem?_eq_none h] at hj; cases hj
          have e1 : u = .string (nth ys j) := by
            simp only [vs, List.getElem?_map, List.getElem?_eq_getElem hj', Option.map_some, Option.some.injEq] at hj
            rw [nth_eq _ _ hj']; exact hj.symm
          have ea : (⟨b, o, none⟩ : Addr).add j = ⟨b, o + j, none⟩ := by unfold Addr.add; by_cases e : j = 0 <;> simp [e]
          rw [ea, q j hj', e1])
        (fun u hu => by simp only [vs, List.mem_map] at hu; obtain ⟨x, _, rfl⟩ := hu; rfl) hroom
      exact ⟨_, w', hr, ho, ⟨_, rfl⟩, hg⟩
end Go.Proofs.YtlpikfebbfcofaaDoor
