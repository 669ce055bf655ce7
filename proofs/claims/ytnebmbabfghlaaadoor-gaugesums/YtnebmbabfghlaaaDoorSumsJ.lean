/- Texts that are built by append beside a row of digits. -/
import Derived.Test.YtnebmbabfghlaaaDoorSumsI
import Derived.Maps.AppendAt
namespace Go.Proofs.YtnebmbabfghlaaaDoor
open Go.RowKit Go.Lib

/-- The text L at v, in memory of the call's own; beside it the digits f at block B; nothing below base has changed. -/
def FE (w0 : World) (base B nd : Nat) (f : Nat → UInt8) (w : World) (v : Value) (L : List UInt8) : Prop :=
  w.ownsRow base 5 1 v L.length (bRow L) ∧ v.ownBlock ≠ some B ∧ (∀ t, t < nd → w.cell? ⟨B, t, none⟩ = some (.int .u8 ((f t).toNat : Int))) ∧ B < w.heap.size ∧ Below base w0 w ∧ base ≤ w.heap.size ∧ L.length ≤ 1000

theorem bRow_append (a b : List UInt8) : bRow (a ++ b) = bRow a ++ bRow b := by simp [bRow]
theorem bRow_len (a : List UInt8) : (bRow a).length = a.length := by simp [bRow]

theorem fe_grown {w0 W w' : World} {base B nd : Nat} {f : Nat → UInt8} {v v' : Value} {L news : List UInt8} (h : FE w0 base B nd f W v L) (hn : L.length + news.length ≤ 1000)
    (ho : w'.ownsRow base 5 1 v' (L.length + news.length) (bRow L ++ bRow news)) (hg : W.grownBy w' v.ownBlock) (hv : v'.ownBlock = v.ownBlock ∨ v'.ownBlock = some W.heap.size) : FE w0 base B nd f w' v' (L ++ news) := by
  obtain ⟨h1, h2, h3, h4, h5, h6, h7⟩ := h
  have hb : Below base w0 w' := h5.grown hg h6 (fun j hj => (h1.lt j hj).1)
  have hs : W.heap.size ≤ w'.heap.size := hg.size
  refine ⟨?_, ?_, ?_, by omega, hb, by omega, by rw [List.length_append]; exact hn⟩
  · rw [List.length_append, bRow_append]; exact ho
  · rcases hv with e | e
    · rw [e]; exact h2
    · rw [e]; intro x; have := Option.some.inj x; omega
  · intro t ht
    exact hg.cell (h3 t ht) (fun x => h2 x.symm)

theorem fe_alloc {w0 W : World} {base B nd : Nat} {f : Nat → UInt8} {v : Value} {L : List UInt8} (h : FE w0 base B nd f W v L) (o : Obj) : FE w0 base B nd f (W.alloc o) v L := by
  obtain ⟨h1, h2, h3, h4, h5, h6, h7⟩ := h
  refine ⟨h1.alloc _, h2, fun t ht => ?_, by simp; omega, h5.alloc h6 _, by simp; omega, h7⟩
  exact (World.cell?_alloc_lt W o ⟨B, t, none⟩ h4).trans (h3 t ht)

/-- The walk over append(dst, b): a byte of its own. -/
theorem wp_app1 {ops : Array Oper} {rest : List Oper} {o : Oper} {a : Act} {Q : Exit → Act → World → Prop} (hgd : o.guard = none) (s x : Operand)
    (ho : o.op = .call { callee := .builtin .append, args := #[s, x], argTypes := #[61, 61] }) {w0 W : World} {base B nd : Nat} {f : Nat → UInt8} {v : Value} {L : List UInt8} (b : UInt8)
    (hf : FE w0 base B nd f W v L) (hL : L.length ≤ 900) (hs : a.eval s = v) (hx : a.eval x = .slice (some ⟨W.heap.size, 0, none⟩) 1 1)
    (h : ∀ v' w', FE w0 base B nd f w' v' (L ++ [b]) → wpList Tryd.prog ops Q rest (a.put o.dst v') w') :
    wpList Tryd.prog ops Q (o :: rest) a (W.alloc (.cells #[.int .u8 (b.toNat : Int)] 5)) := by
  obtain ⟨i0, hi, hz0, hz1, hz2⟩ := info_parts info5
  have hf2 := fe_alloc hf (.cells #[.int .u8 (b.toNat : Int)] 5)
  refine wpList_append_own_at _ hgd s x 61 ho base 5 i0 (.int .u8 0) 1 1 Tryd.underlying61 hi hz0 hz1 hz2 rfl (by decide) v L.length (bRow L) hs hf2.1 ⟨W.heap.size, 0, none⟩ 1 1 [.int .u8 (b.toNat : Int)] hx rfl (cell_one_new _ _ _) ?_ ?_ ?_ ?_ ?_
  · intro u hu; simp at hu; subst hu; rfl
  · unfold maxLen; omega
  · omega
  · exact hf2.2.2.2.2.2.1
  · intro v' w' h1 h2 _ h4
    exact h v' w' (fe_grown (news := [b]) hf2 (by simp; omega) h1 h2 h4)

theorem add_at (g o j : Nat) : (⟨g, o, none⟩ : Addr).add j = ⟨g, o + j, none⟩ := by
  unfold Addr.add
  by_cases e : j = 0 <;> simp [e]
/-- The walk over append(dst, b0, b1, ..): bytes of their own. -/
theorem wp_appN {ops : Array Oper} {rest : List Oper} {o : Oper} {a : Act} {Q : Exit → Act → World → Prop} (hgd : o.guard = none) (s x : Operand)
    (ho : o.op = .call { callee := .builtin .append, args := #[s, x], argTypes := #[61, 61] }) {w0 W : World} {base B nd : Nat} {f : Nat → UInt8} {v : Value} {L : List UInt8} (news : List UInt8) (m : Nat) (hm : news.length = m) (cs : Array Value) (hcs : cs = (bRow news).toArray) (hm9 : m ≤ 9)
    (hf : FE w0 base B nd f W v L) (hL : L.length ≤ 900) (hs : a.eval s = v) (hx : a.eval x = .slice (some ⟨W.heap.size, 0, none⟩) m m)
    (h : ∀ v' w', FE w0 base B nd f w' v' (L ++ news) → wpList Tryd.prog ops Q rest (a.put o.dst v') w') :
    wpList Tryd.prog ops Q (o :: rest) a (W.alloc (.cells cs 5)) := by
  obtain ⟨i0, hi, hz0, hz1, hz2⟩ := info_parts info5
  have hf2 := fe_alloc hf (.cells cs 5)
  refine wpList_append_own_at _ hgd s x 61 ho base 5 i0 (.int .u8 0) 1 1 Tryd.underlying61 hi hz0 hz1 hz2 rfl (by decide) v L.length (bRow L) hs hf2.1 ⟨W.heap.size, 0, none⟩ m m (bRow news) hx (by rw [bRow_len]; omega) ?_ ?_ ?_ ?_ ?_ ?_
  · intro j u hj
    rw [add_at, Nat.zero_add, World.cell?_alloc_new, hcs]
    simpa using hj
  · intro u hu
    obtain ⟨z, _, rfl⟩ := List.mem_map.1 hu
    rfl
  · unfold maxLen; omega
  · omega
  · exact hf2.2.2.2.2.2.1
  · intro v' w' h1 h2 _ h4
    exact h v' w' (fe_grown (news := news) hf2 (by omega) (by rw [hm]; exact h1) h2 h4)

/-- The walk over append(dst, s[i:m]...): digits. -/
theorem wp_appS {ops : Array Oper} {rest : List Oper} {o : Oper} {a : Act} {Q : Exit → Act → World → Prop} (hgd : o.guard = none) (s x : Operand)
    (ho : o.op = .call { callee := .builtin .append, args := #[s, x], argTypes := #[61, 61] }) {w0 W : World} {base B nd : Nat} {f : Nat → UInt8} {v : Value} {L : List UInt8} (i m c : Nat) (him : i + m ≤ nd) (hnd : nd ≤ 40)
    (hf : FE w0 base B nd f W v L) (hL : L.length ≤ 900) (hs : a.eval s = v) (hx : a.eval x = .slice (some ⟨B, i, none⟩) m c)
    (h : ∀ v' w', FE w0 base B nd f w' v' (L ++ (List.range m).map fun t => f (i + t)) → wpList Tryd.prog ops Q rest (a.put o.dst v') w') :
    wpList Tryd.prog ops Q (o :: rest) a W := by
  obtain ⟨i0, hi, hz0, hz1, hz2⟩ := info_parts info5
  refine wpList_append_own_at _ hgd s x 61 ho base 5 i0 (.int .u8 0) 1 1 Tryd.underlying61 hi hz0 hz1 hz2 rfl (by decide) v L.length (bRow L) hs hf.1 ⟨B, i, none⟩ m c (bRow ((List.range m).map fun t => f (i + t))) hx (by rw [bRow_len]; simp) ?_ ?_ ?_ ?_ ?_ ?_
  · intro j u hj
    have hjm : j < m := by
      have := (List.getElem?_eq_some_iff.1 hj).1
      simpa [bRow] using this
    rw [add_at, hf.2.2.1 (i + j) (by omega), ← hj]
    simp [bRow, hjm]
  · intro u hu
    obtain ⟨z, _, rfl⟩ := List.mem_map.1 hu
    rfl
  · unfold maxLen; omega
  · omega
  · exact hf.2.2.2.2.2.1
  · intro v' w' h1 h2 _ h4
    exact h v' w' (fe_grown hf (by simp; omega) (by simpa using h1) h2 h4)
end Go.Proofs.YtnebmbabfghlaaaDoor
