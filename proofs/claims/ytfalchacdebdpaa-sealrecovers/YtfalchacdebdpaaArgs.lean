/- What slices of changes, of bools, of numbers and of crashes that came in are. -/
import Derived.Test.YtfalchacdebdpaaLives2
import Derived.Lib.SmallJoins
import Derived.ProofKit
import Derived.OpenShut
namespace Go.Proofs.Ytfalchacdebdpaa
open Go.RowKit Go.Maps Go.ChangeMaps Go.Deep Go.Joins Go.WideShapes

/-- An address whose cell is there has no spot. -/
theorem spot_none {w : World} {a : Addr} {v : Value} (h : w.cell? a = some v) : a = ⟨a.block, a.off, none⟩ := by
  obtain ⟨b, o, s⟩ := a
  cases s with
  | none => rfl
  | some x =>
    unfold World.cell? at h
    split at h
    · simp at h
    · cases h
theorem add_at {w : World} {x : Addr} {k : Nat} {v : Value} (h : w.cell? (x.add k) = some v) : x.add k = ⟨x.block, x.off + k, none⟩ := by
  have hs := spot_none h
  have hbk : (x.add k).block = x.block := by unfold Addr.add; split <;> rfl
  have hof : (x.add k).off = x.off + k := by
    unfold Addr.add
    by_cases e : k = 0
    · rw [if_pos e, e]; rfl
    · rw [if_neg e]
  exact hs.trans (by rw [hbk, hof])

/-- A slice of changes that came in. -/
structure ChgIn (W : World) (a : Option Addr) (cap : Nat) (cs : List Chg) : Prop where
  le : cs.length ≤ cap
  max : cap ≤ 9223372036854775807
  at_ : ChgsAt W a cs
  ok : ChgOk cs
  none : a = none → cap = 0

section
variable {H : Type} {enc : TypeId × Value → H} {W : World}

theorem open_chg {n : Nat} {v0 v1 : Value} {x : DataW H × List MemPlace} (h : DataW.trod enc Try.prog W 0 (fun _ => true) true n 40 [v0, v1] = some x) :
    ∃ c : Chg, v0 = .int .i64 c.1 ∧ v1 = .int .u64 c.2 ∧ (Lit.int .i64 c.1).wf = true ∧ (Lit.int .u64 c.2).wf = true := by
  obtain ⟨y0, y1, m, _, _, h0, h1⟩ := Go.ChangeShapes.trod_struct2 Try.underlying40 h
  obtain ⟨a0, e0, _, w0⟩ := DataW.trod_int Try.underlying3 h0
  obtain ⟨a1, e1, _, w1⟩ := DataW.trod_int Try.underlying22 h1
  have hc0 : Try.prog.cellsOf 3 = 1 := by kernel_rfl
  have hc1 : Try.prog.cellsOf 22 = 1 := by kernel_rfl
  have e0' : [v0] = [Value.int .i64 a0] := by simpa [hc0] using e0
  have e1' : [v1] = [Value.int .u64 a1] := by simpa [hc1] using e1
  cases e0'; cases e1'
  exact ⟨(a0, a1), rfl, rfl, w0, w1⟩

theorem open_chgs {v : Value} {d : DataW H} {p : List MemPlace} {a : Option Addr} {len cap : Nat} (hv : v = .slice a len cap) (h : DataW.Trod enc Try.prog W 0 (fun _ => true) true 23 v d p) : ∃ cs : List Chg, cs.length = len ∧ ChgIn W a cap cs := by
  subst hv
  obtain ⟨fuel, hf⟩ := h
  rcases open_slice Try.underlying23 hf with ⟨hc, _⟩ | ⟨x, l, c, m, n', D, Pl, hc, _, hl, hm, hmm, _, hx⟩
  · simp [Value.cells] at hc
    obtain ⟨rfl, rfl, rfl⟩ := hc
    exact ⟨[], rfl, by simp, by simp, .inl rfl, fun i hi => absurd hi (Nat.not_lt_zero i), fun _ => rfl⟩
  · simp [Value.cells] at hc
    obtain ⟨rfl, rfl, rfl⟩ := hc
    have hm' : m = cap := by simpa using hmm
    subst hm'
    have hc4 : Try.prog.cellsOf 40 = 2 := by kernel_rfl
    rw [hc4] at hx
    have hS : ∀ i, i < m → ∃ c : Chg, (W.cell? ⟨x.block, x.off + i * 2, none⟩ = some (.int .i64 c.1) ∧ W.cell? ⟨x.block, x.off + i * 2 + 1, none⟩ = some (.int .u64 c.2) ∧ (Lit.int .i64 c.1).wf = true ∧ (Lit.int .u64 c.2).wf = true) ∧ (i = 0 → x = ⟨x.block, x.off, none⟩ ∧ x.block < W.heap.size) := fun i hi => by
      obtain ⟨cs, h1, h2⟩ := hx i hi
      obtain ⟨_, hlen, hcell⟩ := World.cells?_some h1
      match cs, hlen with
      | [v0, v1], _ =>
        obtain ⟨o, rfl, rfl, w0, w1⟩ := open_chg (n := n') h2
        have c0 := hcell 0 (by omega)
        have c1 := hcell 1 (by omega)
        have ea : x.add (i * 2) = ⟨x.block, x.off + i * 2, none⟩ := add_at (v := .int .i64 o.1) (by simpa [Addr.add] using c0)
        rw [ea, add_none] at c0 c1
        refine ⟨o, ⟨by simpa using c0, by simpa using c1, w0, w1⟩, fun e => ?_⟩
        subst e
        refine ⟨by simpa [Addr.add] using ea, ?_⟩
        exact World.block_lt_of_cell? W ⟨x.block, x.off, none⟩ (by simpa using c0)
    haveI : Inhabited Chg := ⟨(0, 0)⟩
    obtain ⟨O, hO⟩ := choose_lt (α := Chg) hS
    refine ⟨(List.range len).map O, by simp, by simpa using hl, by unfold maxLen at hm; omega, ?_, ?_, fun e => by cases e⟩
    · by_cases h0 : len = 0
      · left; subst h0; rfl
      · right
        obtain ⟨e1, e2⟩ := (hO 0 (by omega)).2 rfl
        refine ⟨x.block, x.off, by rw [← e1], e2, fun i hi => ?_⟩
        simp at hi
        have := (hO i (by omega)).1
        simpa [hi] using ⟨this.1, this.2.1⟩
    · intro i hi
      simp at hi
      have := (hO i (by omega)).1
      simpa [hi] using this.2.2
end

theorem ChgsAt.take {w : World} {a : Option Addr} {cs : List Chg} (h : ChgsAt w a cs) (n : Nat) : ChgsAt w a (cs.take n) := by
  rcases h with rfl | ⟨b, o, e, hb, hc⟩
  · left; simp
  · right
    refine ⟨b, o, e, hb, fun i hi => ?_⟩
    rw [List.length_take] at hi
    have e2 : (cs.take n).getD i (0, 0) = cs.getD i (0, 0) := by simp [List.getD, show i < n by omega]
    rw [e2]; exact hc i (by omega)
theorem ChgOk.take {cs : List Chg} (h : ChgOk cs) (n : Nat) : ChgOk (cs.take n) := fun i hi => by
  rw [List.length_take] at hi
  have e2 : (cs.take n).getD i (0, 0) = cs.getD i (0, 0) := by simp [List.getD, show i < n by omega]
  rw [e2]; exact h i (by omega)

theorem rem_form (a : Int) (n : Int) (h0 : 0 < n) (h1 : n < 1000000) : ∃ k : Nat, wrap64 ((IntKind.u64.wrap a).tmod n) = (k : Int) ∧ IntKind.i64.wrap ((IntKind.u64.wrap a).tmod n) = (k : Int) ∧ (k : Int) < n := by
  have hm0 := Int.emod_nonneg (a % 18446744073709551616) (show n ≠ 0 by omega)
  have hm1 := Int.emod_lt_of_pos (a % 18446744073709551616) h0
  refine ⟨((a % 18446744073709551616) % n).toNat, ?_, ?_, by omega⟩
  · rw [IntKind.wrap_u64, Int.tmod_eq_emod_of_nonneg (by omega)]
    unfold wrap64
    omega
  · rw [IntKind.wrap_u64, Int.tmod_eq_emod_of_nonneg (by omega), IntKind.wrap_i64]
    omega

end Go.Proofs.Ytfalchacdebdpaa
