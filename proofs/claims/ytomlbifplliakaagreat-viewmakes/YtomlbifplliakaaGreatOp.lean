/- Slices of steps and of changes that came in; a script's first 60 steps. -/
import Derived.Test.YtomlbifplliakaaGreatSt
namespace Go.Proofs.YtomlbifplliakaaGreat
open Go.RowKit Go.Maps Go.ChangeMaps Go.ChangeShapes Go.WideShapes Go.ChangeAt Go.Deep Go.Joins
set_option linter.unusedVariables false

def noVop : Vop := ⟨0, 0, 0, ⟨0, 0, 0, 0, 0, 0, 0, 0, 0, 0⟩, none, 0, 0, fun _ => 0, none, 0, 0, fun _ => 0⟩
/-- A script that came in. -/
structure OpsIn (W : World) (a : Option Addr) (cap : Nat) (ops : List Vop) : Prop where
  le : ops.length ≤ cap
  max : cap ≤ 9223372036854775807
  none : a = none → cap = 0
  at_ : ops = [] ∨ ∃ b off, a = some ⟨b, off, Option.none⟩ ∧ b < W.heap.size ∧ ∀ i, i < ops.length → (∀ j, j < 15 → W.cell? ⟨b, off + i * 15 + j, Option.none⟩ = (ops.getD i noVop).vals[j]?) ∧ VopIn W (ops.getD i noVop)
/-- A slice of changes that came in. -/
structure ChgIn (W : World) (a : Option Addr) (cap : Nat) (cs : List Chg) : Prop where
  le : cs.length ≤ cap
  max : cap ≤ 9223372036854775807
  at_ : ChgsAt W a cs
  ok : ∀ i, i < cs.length → (Lit.int .i64 (cs.getD i (0, 0)).1).wf = true ∧ (Lit.int .u64 (cs.getD i (0, 0)).2).wf = true

section
variable {H : Type} {enc : TypeId × Value → H} {W : World}
theorem open_chg {n : Nat} {v0 v1 : Value} {x : DataW H × List MemPlace} (h : DataW.trod enc Tryz.prog W 0 (fun _ => true) true n 47 [v0, v1] = some x) :
    ∃ c : Chg, v0 = .int .i64 c.1 ∧ v1 = .int .u64 c.2 ∧ (Lit.int .i64 c.1).wf = true ∧ (Lit.int .u64 c.2).wf = true := by
  obtain ⟨y0, y1, m, _, _, h0, h1⟩ := Go.ChangeShapes.trod_struct2 Tryz.underlying47 h
  obtain ⟨a0, e0, _, w0⟩ := DataW.trod_int Tryz.underlying3 h0
  obtain ⟨a1, e1, _, w1⟩ := DataW.trod_int Tryz.underlying35 h1
  have e0' : [v0] = [Value.int .i64 a0] := by simpa [cellsI] using e0
  have e1' : [v1] = [Value.int .u64 a1] := by simpa [cellsI, cellsU] using e1
  cases e0'; cases e1'
  exact ⟨(a0, a1), rfl, rfl, w0, w1⟩
theorem open_chgs {v : Value} {d : DataW H} {p : List MemPlace} {a : Option Addr} {len cap : Nat} (hv : v = .slice a len cap) (h : DataW.Trod enc Tryz.prog W 0 (fun _ => true) true 22 v d p) : ∃ cs : List Chg, cs.length = len ∧ ChgIn W a cap cs := by
  subst hv
  obtain ⟨fuel, hf⟩ := h
  rcases open_slice Tryz.underlying22 hf with ⟨hc, _⟩ | ⟨x, l, c, m, n', D, Pl, hc, _, hl, hm, hmm, _, hx⟩
  · simp [Value.cells] at hc
    obtain ⟨rfl, rfl, rfl⟩ := hc
    exact ⟨[], rfl, by simp, by simp, .inl rfl, fun i hi => absurd hi (Nat.not_lt_zero i)⟩
  · simp [Value.cells] at hc
    obtain ⟨rfl, rfl, rfl⟩ := hc
    have hm' : m = cap := by simpa using hmm
    subst hm'
    have hc4 : Tryz.prog.cellsOf 47 = 2 := by kernel_rfl
    rw [hc4] at hx
    have hS : ∀ i, i < m → ∃ c : Chg, (W.cell? ⟨x.block, x.off + i * 2, none⟩ = some (.int .i64 c.1) ∧ W.cell? ⟨x.block, x.off + i * 2 + 1, none⟩ = some (.int .u64 c.2) ∧ (Lit.int .i64 c.1).wf = true ∧ (Lit.int .u64 c.2).wf = true) ∧ (i = 0 → x = ⟨x.block, x.off, none⟩ ∧ x.block < W.heap.size) := fun i hi => by
      obtain ⟨cs, h1, h2⟩ := hx i hi
      obtain ⟨_, hlen, hcell⟩ := World.cells?_some h1
      match cs, hlen with
      | [v0, v1], _ =>
        obtain ⟨o, rfl, rfl, w0, w1⟩ := open_chg (n := n') h2
        have c0 := hcell 0 (by omega)
        have c1 := hcell 1 (by omega)
        have ea : x.add (i * 2) = ⟨x.block, x.off + i * 2, none⟩ := addr_at (v := .int .i64 o.1) (by simpa [Addr.add] using c0)
        rw [ea, add_none] at c0 c1
        refine ⟨o, ⟨by simpa using c0, by simpa using c1, w0, w1⟩, fun e => ?_⟩
        subst e
        refine ⟨by simpa [Addr.add] using ea, ?_⟩
        exact World.block_lt_of_cell? W ⟨x.block, x.off, none⟩ (by simpa using c0)
    haveI : Inhabited Chg := ⟨(0, 0)⟩
    obtain ⟨O, hO⟩ := choose_lt (α := Chg) hS
    refine ⟨(List.range len).map O, by simp, by simpa using hl, by unfold maxLen at hm; omega, ?_, ?_⟩
    · by_cases h0 : len = 0
      · left; subst h0; rfl
      · right
        obtain ⟨e1, e2⟩ := (hO 0 (by omega)).2 rfl
        refine ⟨x.block, x.off, by rw [← e1], e2, fun i hi => ?_⟩
        simp at hi
        have := (hO i (by omega)).1
        simpa [hi] using ⟨this.1, this.2.1⟩
    · intro i hi
      simp at hi
      have := (hO i (by omega)).1
      simpa [hi] using this.2.2
theorem open_ops {v : Value} {d : DataW H} {p : List MemPlace} {a : Option Addr} {len cap : Nat} (hv : v = .slice a len cap) (h : DataW.Trod enc Tryz.prog W 0 (fun _ => true) true 23 v d p) : ∃ ops : List Vop, ops.length = len ∧ OpsIn W a cap ops := by
  subst hv
  obtain ⟨fuel, hf⟩ := h
  rcases open_slice Tryz.underlying23 hf with ⟨hc, _⟩ | ⟨x, l, c, m, n', D, Pl, hc, _, hl, hm, hmm, _, hx⟩
  · simp [Value.cells] at hc
    obtain ⟨rfl, rfl, rfl⟩ := hc
    exact ⟨[], rfl, by simp, by simp, fun _ => rfl, .inl rfl⟩
  · simp [Value.cells] at hc
    obtain ⟨rfl, rfl, rfl⟩ := hc
    have hm' : m = cap := by simpa using hmm
    subst hm'
    rw [cellsO] at hx
    have hS : ∀ i, i < m → ∃ o : Vop, ((∀ j, j < 15 → W.cell? ⟨x.block, x.off + i * 15 + j, none⟩ = o.vals[j]?) ∧ VopIn W o) ∧ (i = 0 → x = ⟨x.block, x.off, none⟩ ∧ x.block < W.heap.size) := fun i hi => by
      obtain ⟨cs, h1, h2⟩ := hx i hi
      obtain ⟨_, hlen, hcell⟩ := World.cells?_some h1
      obtain ⟨v0, v1, v2, v3, v4, v5, v6, v7, v8, v9, v10, v11, v12, v13, v14, rfl⟩ := list15 cs (by simpa using hlen)
      obtain ⟨o, e, ho⟩ := open_stp (fuel := n') h2
      have ea : x.add (i * 15) = ⟨x.block, x.off + i * 15, none⟩ := addr_at (v := v0) (by simpa [Addr.add] using hcell 0 (by omega))
      refine ⟨o, ⟨fun j hj => ?_, ho⟩, fun e0 => ?_⟩
      · have := hcell j (by omega)
        rw [ea, add_none] at this
        rw [this, ← e]
      · subst e0
        have := hcell 0 (by omega)
        rw [ea, add_none] at this
        refine ⟨by simpa [Addr.add] using ea, ?_⟩
        exact World.block_lt_of_cell? W ⟨x.block, x.off, none⟩ (u := v0) (by simpa using this)
    haveI : Inhabited Vop := ⟨noVop⟩
    obtain ⟨O, hO⟩ := choose_lt (α := Vop) hS
    refine ⟨(List.range len).map O, by simp, by simpa using hl, by unfold maxLen at hm; omega, fun e => (by cases e), ?_⟩
    by_cases h0 : len = 0
    · left; subst h0; rfl
    · right
      obtain ⟨e1, e2⟩ := (hO 0 (by omega)).2 rfl
      refine ⟨x.block, x.off, by rw [← e1], e2, fun i hi => ?_⟩
      simp at hi
      have := (hO i (by omega)).1
      simpa [hi] using this
end
theorem OpsIn.early {W : World} {a : Option Addr} {cap : Nat} {ops : List Vop} (h : OpsIn W a cap ops) : OpsIn W a cap (ops.take 60) := by
  refine ⟨by have := h.le; simp; omega, h.max, h.none, ?_⟩
  rcases h.at_ with rfl | ⟨b, off, e, hb, hs⟩
  · exact .inl rfl
  · refine .inr ⟨b, off, e, hb, fun i hi => ?_⟩
    simp at hi
    have := hs i (by omega)
    have e2 : (ops.take 60).getD i noVop = ops.getD i noVop := by
      have h60 : i < 60 := by omega
      simp [List.getD, h60]
    rw [e2]; exact this
theorem early_any (W w : World) (a : Option Addr) (cap : Nat) (ops : List Vop) (h : OpsIn W a cap ops) :
    Calls Tryz.prog 10 #[.slice a ops.length cap] w fun e w' => e = .returned (.slice a (ops.take 60).length cap) ∧ w' = w := by
  have h1 := h.le
  have h2 := h.max
  cases a with
  | none =>
    have h3 := h.none rfl
    subst h3
    obtain rfl : ops = [] := List.length_eq_zero_iff.1 (by omega)
    go_enter Tryz.func10, Tryz.ntmps10
    go_wp2
    go_ret
    exact ⟨rfl, rfl⟩
  | some x =>
    obtain ⟨k, hk⟩ : ∃ k : Nat, min (ops.length : Int) 60 = (k : Int) := ⟨(min (ops.length : Int) 60).toNat, by omega⟩
    have hkl : (ops.take 60).length = k := by simp; omega
    rw [hkl]
    have h5 : k ≤ cap := by omega
    clear h1 hkl h
    go_enter Tryz.func10, Tryz.ntmps10
    go_wp2
    go_ret
    exact ⟨rfl, rfl⟩

end Go.Proofs.YtomlbifplliakaaGreat
