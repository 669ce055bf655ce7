/- What a script that came in is: its steps, each with its bools; and a script's first 200 steps. -/
import Derived.Test.YtoabgkkfhoiagaaDoes
import Derived.Lib.SmallJoins
import Derived.ProofKit
import Derived.OpenShut
namespace Go.Proofs.Ytoabgkkfhoiagaa
open Go.RowKit Go.Maps Go.ChangeMaps Go.Deep Go.Joins Go.WideShapes

/-- A slice of bools that came in. -/
def KeepAt (W : World) (v : Value) (ks : List Bool) : Prop :=
  ∃ ka kc, v = .slice ka ks.length kc ∧ ks.length ≤ 9223372036854775807 ∧ (ks = [] ∨ ∃ kb ko, ka = some ⟨kb, ko, none⟩ ∧ kb < W.heap.size ∧ ∀ i, i < ks.length → W.cell? ⟨kb, ko + i, none⟩ = some (.bool (ks.getD i false)))

theorem KeepAt.is {W w : World} {S : List Nat} {v : Value} {ks : List Bool} (h : KeepAt W v ks) (hb : Below W.heap.size W w) (hS : ∀ k ∈ S, W.heap.size ≤ k) : KeepIs w S v ks := by
  obtain ⟨ka, kc, e, _, h1⟩ := h
  refine ⟨ka, kc, e, ?_⟩
  rcases h1 with h1 | ⟨kb, ko, e1, h2, h3⟩
  · exact .inl h1
  · exact .inr ⟨kb, ko, e1, fun hm => by have := hS kb hm; omega, fun i hi => (hb.cell (p := ⟨kb, ko + i, none⟩) h2).trans (h3 i hi)⟩

theorem KeepAt.len {W : World} {v : Value} {ks : List Bool} (h : KeepAt W v ks) : ks.length ≤ 9223372036854775807 := let ⟨_, _, _, h1, _⟩ := h; h1

/-- An address whose cell is there has no spot. -/
theorem spot_none {w : World} {a : Addr} {v : Value} (h : w.cell? a = some v) : a = ⟨a.block, a.off, none⟩ := by
  obtain ⟨b, o, s⟩ := a
  cases s with
  | none => rfl
  | some x =>
    unfold World.cell? at h
    split at h
    · simp at h
    · cases h

theorem add_none (b o i : Nat) : (⟨b, o, none⟩ : Addr).add i = ⟨b, o + i, none⟩ := by
  unfold Addr.add
  by_cases e : i = 0 <;> simp [e]

section
variable {H : Type} {enc : TypeId × Value → H} {W : World}

theorem open_keep {n : Nat} {v : Value} {x : DataW H × List MemPlace} (h : DataW.trod enc Try.prog W 0 (fun _ => true) true n 33 [v] = some x) : ∃ ks, KeepAt W v ks := by
  rcases open_slice1 Try.underlying33 (by kernel_rfl) h with ⟨hc, _⟩ | ⟨a, len, cap, m, n', V, D, Pl, hc, _, hl, hm, hmm, _, hx⟩
  · cases hc
    exact ⟨[], none, 0, rfl, by simp, .inl rfl⟩
  · cases hc
    have hm' : m = cap := by simpa using hmm
    subst hm'
    have hB : ∀ i, i < m → ∃ b : Bool, V i = .bool b := fun i hi => by
      obtain ⟨b, hb, _⟩ := DataW.trod_bool Try.underlying4 (hx i hi).2
      exact ⟨b, by simpa using hb⟩
    obtain ⟨B, hB'⟩ := choose_lt hB
    refine ⟨(List.range len).map B, some a, m, by simp, by simp; unfold maxLen at hm; omega, ?_⟩
    by_cases h0 : len = 0
    · left; subst h0; rfl
    · right
      have c0 := (hx 0 (by omega)).1
      have e0 : a = ⟨a.block, a.off, none⟩ := spot_none (by simpa [Addr.add] using c0)
      refine ⟨a.block, a.off, by rw [← e0], ?_, ?_⟩
      · exact World.block_lt_of_cell? W a (by simpa [Addr.add] using c0)
      · intro i hi
        simp at hi
        have := (hx i (by omega)).1
        rw [e0, add_none, hB' i (by omega)] at this
        rw [this]
        simp [hi]

/-- A step's four cells. -/
theorem open_cells {n : Nat} {v0 v1 v2 v3 : Value} {x : DataW H × List MemPlace} (h : DataW.trod enc Try.prog W 0 (fun _ => true) true n 35 [v0, v1, v2, v3] = some x) :
    ∃ o : Step, v0 = .int .i64 o.kind ∧ v1 = .int .i64 o.at_ ∧ v2 = .int .u64 o.v ∧ KeepAt W v3 o.keep ∧ o.Ok := by
  obtain ⟨y0, y1, y2, y3, m, _, _, h0, h1, h2, h3⟩ := trod_struct4 Try.underlying35 h
  obtain ⟨a0, e0, _, w0⟩ := DataW.trod_int Try.underlying3 h0
  obtain ⟨a1, e1, _, w1⟩ := DataW.trod_int Try.underlying3 h1
  obtain ⟨a2, e2, _, w2⟩ := DataW.trod_int Try.underlying32 h2
  have h3' : DataW.trod enc Try.prog W 0 (fun _ => true) true m 33 [v3] = some y3 := h3
  obtain ⟨ks, hk⟩ := open_keep h3'
  have e0' : [v0] = [Value.int .i64 a0] := e0
  have e1' : [v1] = [Value.int .i64 a1] := e1
  have e2' : [v2] = [Value.int .u64 a2] := e2
  cases e0'; cases e1'; cases e2'
  exact ⟨⟨a0, a1, a2, ks⟩, rfl, rfl, rfl, hk, w0, w1, w2, hk.len⟩

/-- A step by value. -/
theorem open_step {r : Reach} {b0 : Nat} {v : Value} {d : DataW H} {p : List MemPlace} (hv : Value.okWide Try.prog W r b0 35 v) (h : DataW.Trod enc Try.prog W 0 (fun _ => true) true 35 v d p) :
    ∃ (o : Step) (kv : Value), v = .agg #[.int .i64 o.kind, .int .i64 o.at_, .int .u64 o.v, kv] ∧ KeepAt W kv o.keep ∧ o.Ok := by
  obtain ⟨cs, rfl, hsz⟩ := okWide_struct Try.underlying35 hv
  obtain ⟨c0, c1, c2, c3, rfl⟩ := array4 (hsz.trans (by kernel_rfl))
  obtain ⟨fuel, hf⟩ := h
  obtain ⟨o, rfl, rfl, rfl, hk, ho⟩ := open_cells (n := fuel) hf
  exact ⟨o, c3, rfl, hk, ho⟩

def noStep : Step := ⟨0, 0, 0, []⟩

/-- A script's step i, at its four cells. -/
def StepAt (W : World) (b off : Nat) (o : Step) : Prop :=
  ∃ kv, W.cell? ⟨b, off, none⟩ = some (.int .i64 o.kind) ∧ W.cell? ⟨b, off + 1, none⟩ = some (.int .i64 o.at_) ∧ W.cell? ⟨b, off + 2, none⟩ = some (.int .u64 o.v) ∧ W.cell? ⟨b, off + 3, none⟩ = some kv ∧ KeepAt W kv o.keep ∧ o.Ok

/-- A script that came in. -/
def OpsAt (W : World) (a : Option Addr) (cap : Nat) (ops : List Step) : Prop :=
  ops.length ≤ cap ∧ cap ≤ 9223372036854775807 ∧ (a = none ∧ ops = [] ∧ cap = 0 ∨ ∃ x, a = some x ∧ (ops = [] ∨ ∃ b off, x = ⟨b, off, none⟩ ∧ b < W.heap.size ∧ ∀ i, i < ops.length → StepAt W b (off + i * 4) (ops.getD i noStep)))

theorem open_ops {v : Value} {d : DataW H} {p : List MemPlace} {a : Option Addr} {len cap : Nat} (hv : v = .slice a len cap) (h : DataW.Trod enc Try.prog W 0 (fun _ => true) true 22 v d p) : ∃ ops : List Step, ops.length = len ∧ OpsAt W a cap ops := by
  subst hv
  obtain ⟨fuel, hf⟩ := h
  rcases open_slice Try.underlying22 hf with ⟨hc, _⟩ | ⟨x, l, c, m, n', D, Pl, hc, _, hl, hm, hmm, _, hx⟩
  · simp [Value.cells] at hc
    obtain ⟨rfl, rfl, rfl⟩ := hc
    exact ⟨[], rfl, by simp, by simp, .inl ⟨rfl, rfl, rfl⟩⟩
  · simp [Value.cells] at hc
    obtain ⟨rfl, rfl, rfl⟩ := hc
    have hm' : m = cap := by simpa using hmm
    subst hm'
    have hc4 : Try.prog.cellsOf 35 = 4 := by kernel_rfl
    rw [hc4] at hx
    have hS : ∀ i, i < m → ∃ o : Step, StepAt W x.block (x.off + i * 4) o ∧ (i = 0 → x = ⟨x.block, x.off, none⟩ ∧ x.block < W.heap.size) := fun i hi => by
      obtain ⟨cs, h1, h2⟩ := hx i hi
      obtain ⟨_, hlen, hcell⟩ := World.cells?_some h1
      match cs, hlen with
      | [v0, v1, v2, v3], _ =>
        obtain ⟨o, rfl, rfl, rfl, hk, ho⟩ := open_cells (n := n') h2
        have c0 := hcell 0 (by omega)
        have c1 := hcell 1 (by omega)
        have c2 := hcell 2 (by omega)
        have c3 := hcell 3 (by omega)
        have ea : x.add (i * 4) = ⟨x.block, x.off + i * 4, none⟩ := by
          have hs := spot_none (a := x.add (i * 4)) (v := .int .i64 o.kind) (by simpa [Addr.add] using c0)
          have hbk : (x.add (i * 4)).block = x.block := by unfold Addr.add; split <;> rfl
          have hof : (x.add (i * 4)).off = x.off + i * 4 := by
            unfold Addr.add
            by_cases e : i * 4 = 0
            · rw [if_pos e, e]; rfl
            · rw [if_neg e]
          exact hs.trans (by rw [hbk, hof])
        rw [ea, add_none] at c0 c1 c2 c3
        refine ⟨o, ⟨v3, by simpa using c0, by simpa using c1, by simpa using c2, by simpa using c3, hk, ho⟩, fun e => ?_⟩
        subst e
        refine ⟨by simpa [Addr.add] using ea, ?_⟩
        exact World.block_lt_of_cell? W ⟨x.block, x.off, none⟩ (by simpa using c0)
    haveI : Inhabited Step := ⟨noStep⟩
    obtain ⟨O, hO⟩ := choose_lt (α := Step) hS
    refine ⟨(List.range len).map O, by simp, by simpa using hl, by unfold maxLen at hm; omega, .inr ⟨x, rfl, ?_⟩⟩
    by_cases h0 : len = 0
    · left; subst h0; rfl
    · right
      obtain ⟨e1, e2⟩ := (hO 0 (by omega)).2 rfl
      refine ⟨x.block, x.off, e1, e2, fun i hi => ?_⟩
      simp at hi
      have := (hO i (by omega)).1
      simpa [hi] using this

end

theorem OpsAt.early {W : World} {a : Option Addr} {cap : Nat} {ops : List Step} (h : OpsAt W a cap ops) : OpsAt W a cap (ops.take 200) := by
  obtain ⟨h1, h2, h3⟩ := h
  refine ⟨by simp; omega, h2, ?_⟩
  rcases h3 with ⟨rfl, rfl, rfl⟩ | ⟨x, rfl, h4⟩
  · exact .inl ⟨rfl, rfl, rfl⟩
  · refine .inr ⟨x, rfl, ?_⟩
    rcases h4 with rfl | ⟨b, off, e, hb, hs⟩
    · exact .inl rfl
    · refine .inr ⟨b, off, e, hb, fun i hi => ?_⟩
      simp at hi
      have := hs i (by omega)
      have e2 : (ops.take 200).getD i noStep = ops.getD i noStep := by 
        have h200 : i < 200 := by omega
        simp [List.getD, h200]
      rw [e2]; exact this

theorem early_any (W w : World) (a : Option Addr) (cap : Nat) (ops : List Step) (h : OpsAt W a cap ops) :
    Calls Try.prog 11 #[.slice a ops.length cap] w fun e w' => e = .returned (.slice a (ops.take 200).length cap) ∧ w' = w := by
  obtain ⟨h1, h2, h3⟩ := h
  rcases h3 with ⟨rfl, rfl, rfl⟩ | ⟨x, rfl, _⟩
  · go_enter Try.func11, Try.ntmps11
    go_wp2
    go_ret
    exact ⟨rfl, rfl⟩
  · obtain ⟨k, hk⟩ : ∃ k : Nat, min (ops.length : Int) 200 = (k : Int) := ⟨(min (ops.length : Int) 200).toNat, by omega⟩
    have hkl : (ops.take 200).length = k := by simp; omega
    rw [hkl]
    have h5 : k ≤ cap := by omega
    clear h1 hkl
    go_enter Try.func11, Try.ntmps11
    go_wp2
    go_ret
    exact ⟨rfl, rfl⟩

end Go.Proofs.Ytoabgkkfhoiagaa
