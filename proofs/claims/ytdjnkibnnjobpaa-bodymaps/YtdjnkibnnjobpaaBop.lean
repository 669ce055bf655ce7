/- What came in: steps, cards, changes, numbers, taken apart. -/
import Derived.Test.YtdjnkibnnjobpaaBdP
import Derived.Lib.SmallJoins
import Derived.ProofKit
import Derived.OpenShut
import Derived.SizedLaws
namespace Go.Proofs.Ytdjnkibnnjobpaa
open Go.RowKit Go.Maps Go.ChangeMaps Go.ChangeShapes Go.WideShapes Go.ChangeAt Go.Deep Go.Joins
set_option linter.unusedVariables false

theorem own : ownKnob Try.prog.godebug = none := by kernel_rfl
theorem laidOut : laidOutB Try.prog = true := by kernel_rfl
theorem cellsI : Try.prog.cellsOf 3 = 1 := by kernel_rfl
theorem cellsU : Try.prog.cellsOf 23 = 1 := by kernel_rfl
theorem cellsA5 : Try.prog.cellsOf 24 = 5 := by kernel_rfl
theorem cellsK : Try.prog.cellsOf 26 = 10 := by kernel_rfl
theorem cellsIL : Try.prog.cellsOf 27 = 1 := by kernel_rfl
theorem cellsS : Try.prog.cellsOf 9 = 1 := by kernel_rfl
/-- An address whose cell is there has no spot. -/
theorem spot_none {w : World} {a : Addr} {v : Value} (h : w.cell? a = some v) : a = ⟨a.block, a.off, none⟩ := by
  obtain ⟨b, o, s⟩ := a
  cases s with
  | none => rfl
  | some x =>
    unfold World.cell? at h
    split at h
    · simp at h
    · cases h
theorem addr_at {w : World} {x : Addr} {k : Nat} {v : Value} (h : w.cell? (x.add k) = some v) : x.add k = ⟨x.block, x.off + k, none⟩ := by
  have hs := spot_none h
  have hbk : (x.add k).block = x.block := by unfold Addr.add; split <;> rfl
  have hof : (x.add k).off = x.off + k := by
    unfold Addr.add
    by_cases e : k = 0
    · rw [if_pos e, e]; rfl
    · rw [if_neg e]
  exact hs.trans (by rw [hbk, hof])
/-- A slice of changes that came in. -/
structure ChgIn (W : World) (a : Option Addr) (cap : Nat) (cs : List Chg) : Prop where
  le : cs.length ≤ cap
  max : cap ≤ 9223372036854775807
  at_ : ChgsAt W a cs
  ok : ∀ i, i < cs.length → (Lit.int .i64 (cs.getD i (0, 0)).1).wf = true ∧ (Lit.int .u64 (cs.getD i (0, 0)).2).wf = true

/-- A slice of numbers that came in. -/
structure NumsIn (W : World) (v : Value) (a : Option Addr) (n c : Nat) (f : Nat → Int) : Prop where
  val : v = .slice a n c
  at_ : IntsAt W a n f
  ok : ∀ i, i < n → (Lit.int .i64 (f i)).wf = true
  len : n ≤ maxLen
  le : n ≤ c

/-- A card's ten numbers. -/
structure Crd where
  k : Int
  l : Int
  s : Int
  v : Int
  d0 : Int
  d1 : Int
  d2 : Int
  d3 : Int
  d4 : Int
  m : Int
def Crd.vals (c : Crd) : List Value := [.int .i64 c.k, .int .i64 c.l, .int .i64 c.s, .int .u64 c.v, .int .i64 c.d0, .int .i64 c.d1, .int .i64 c.d2, .int .i64 c.d3, .int .i64 c.d4, .int .i64 c.m]

/-- A step: its kind, its place, how many, its bytes. -/
structure Bop where
  kind : Int
  at_ : Int
  n : Int
  data : ByteArray
def Bop.vals (o : Bop) : List Value := [.int .i64 o.kind, .int .i64 o.at_, .int .i64 o.n, .string o.data]
structure BopIn (o : Bop) : Prop where
  kind : (Lit.int .i64 o.kind).wf = true
  at_ : (Lit.int .i64 o.at_).wf = true
  n : (Lit.int .i64 o.n).wf = true
  data : o.data.size ≤ maxLen
def noBop : Bop := ⟨0, 0, 0, ⟨#[]⟩⟩
/-- A script that came in. -/
structure BopsIn (W : World) (a : Option Addr) (cap : Nat) (ops : List Bop) : Prop where
  le : ops.length ≤ cap
  max : cap ≤ 9223372036854775807
  none : a = none → cap = 0
  at_ : ops = [] ∨ ∃ b off, a = some ⟨b, off, Option.none⟩ ∧ b < W.heap.size ∧ ∀ i, i < ops.length → (∀ j, j < 4 → W.cell? ⟨b, off + i * 4 + j, Option.none⟩ = (ops.getD i noBop).vals[j]?) ∧ BopIn (ops.getD i noBop)

section
variable {H : Type} {enc : TypeId × Value → H} {W : World}
set_option maxRecDepth 100000 in
theorem array5 {w : World} {base : Nat} {spare : Nat → Bool} {held : Bool} {fuel : Nat} {c0 c1 c2 c3 c4 : Value} {x : DataW H × List MemPlace}
    (h : DataW.trod enc Try.prog w base spare held fuel 24 [c0, c1, c2, c3, c4] = some x) :
    ∃ y0 y1 y2 y3 y4 n, DataW.trod enc Try.prog w base spare held n 3 [c0] = some y0 ∧ DataW.trod enc Try.prog w base spare held n 3 [c1] = some y1 ∧ DataW.trod enc Try.prog w base spare held n 3 [c2] = some y2 ∧ DataW.trod enc Try.prog w base spare held n 3 [c3] = some y3 ∧ DataW.trod enc Try.prog w base spare held n 3 [c4] = some y4 := by
  cases fuel with
  | zero => simp [DataW.trod] at h
  | succ n =>
    unfold DataW.trod at h
    rw [Try.underlying24] at h
    have r5 : List.range 5 = [0, 1, 2, 3, 4] := rfl
    simp [r5, cellsI] at h
    obtain ⟨_, h⟩ := h
    cases h0 : DataW.trod enc Try.prog w base spare held n 3 [c0] with
    | none => simp [h0] at h
    | some y0 =>
      cases h1 : DataW.trod enc Try.prog w base spare held n 3 [c1] with
      | none => simp [h0, h1] at h
      | some y1 =>
        cases h2 : DataW.trod enc Try.prog w base spare held n 3 [c2] with
        | none => simp [h0, h1, h2] at h
        | some y2 =>
          cases h3 : DataW.trod enc Try.prog w base spare held n 3 [c3] with
          | none => simp [h0, h1, h2, h3] at h
          | some y3 =>
            cases h4 : DataW.trod enc Try.prog w base spare held n 3 [c4] with
            | none => simp [h0, h1, h2, h3, h4] at h
            | some y4 => exact ⟨y0, y1, y2, y3, y4, n, h0, h1, h2, h3, h4⟩
theorem open_crd {fuel : Nat} {c0 c1 c2 c3 c4 c5 c6 c7 c8 c9 : Value} {x : DataW H × List MemPlace} (h : DataW.trod enc Try.prog W 0 (fun _ => true) true fuel 26 [c0, c1, c2, c3, c4, c5, c6, c7, c8, c9] = some x) :
    ∃ c : Crd, [c0, c1, c2, c3, c4, c5, c6, c7, c8, c9] = c.vals ∧ (Lit.int .u64 c.v).wf = true := by
  obtain ⟨xs, n, _, hx, hl, hlen, hfs⟩ := DataW.trod_struct Try.underlying26 h
  have f0 := hfs 0 _ rfl
  have f1 := hfs 1 _ rfl
  have f2 := hfs 2 _ rfl
  have f3 := hfs 3 _ rfl
  have f4 := hfs 4 _ rfl
  have f5 := hfs 5 _ rfl
  simp [cellsI, cellsU, cellsA5] at f0 f1 f2 f3 f4 f5
  match xs, hlen with
  | [y0, y1, y2, y3, y4, y5], _ =>
    simp at f0 f1 f2 f3 f4 f5
    obtain ⟨z0, z1, z2, z3, z4, n', g0, g1, g2, g3, g4⟩ := array5 f4
    obtain ⟨x0, e0, rfl, u0⟩ := DataW.trod_int Try.underlying3 f0
    obtain ⟨x1, e1, rfl, u1⟩ := DataW.trod_int Try.underlying3 f1
    obtain ⟨x2, e2, rfl, u2⟩ := DataW.trod_int Try.underlying3 f2
    obtain ⟨x3, e3, rfl, u3⟩ := DataW.trod_int Try.underlying23 f3
    obtain ⟨x4, e4, rfl, u4⟩ := DataW.trod_int Try.underlying3 g0
    obtain ⟨x5, e5, rfl, u5⟩ := DataW.trod_int Try.underlying3 g1
    obtain ⟨x6, e6, rfl, u6⟩ := DataW.trod_int Try.underlying3 g2
    obtain ⟨x7, e7, rfl, u7⟩ := DataW.trod_int Try.underlying3 g3
    obtain ⟨x8, e8, rfl, u8⟩ := DataW.trod_int Try.underlying3 g4
    obtain ⟨x9, e9, rfl, u9⟩ := DataW.trod_int Try.underlying3 f5
    simp at e0 e1 e2 e3 e4 e5 e6 e7 e8 e9
    subst e0 e1 e2 e3 e4 e5 e6 e7 e8 e9
    exact ⟨⟨x0, x1, x2, x3, x4, x5, x6, x7, x8, x9⟩, rfl, u3⟩

theorem open_chg {n : Nat} {v0 v1 : Value} {x : DataW H × List MemPlace} (h : DataW.trod enc Try.prog W 0 (fun _ => true) true n 61 [v0, v1] = some x) :
    ∃ c : Chg, v0 = .int .i64 c.1 ∧ v1 = .int .u64 c.2 ∧ (Lit.int .i64 c.1).wf = true ∧ (Lit.int .u64 c.2).wf = true := by
  obtain ⟨y0, y1, m, _, _, h0, h1⟩ := Go.ChangeShapes.trod_struct2 Try.underlying61 h
  obtain ⟨a0, e0, _, w0⟩ := DataW.trod_int Try.underlying3 h0
  obtain ⟨a1, e1, _, w1⟩ := DataW.trod_int Try.underlying23 h1
  have e0' : [v0] = [Value.int .i64 a0] := by simpa [cellsI] using e0
  have e1' : [v1] = [Value.int .u64 a1] := by simpa [cellsI, cellsU] using e1
  cases e0'; cases e1'
  exact ⟨(a0, a1), rfl, rfl, w0, w1⟩
theorem open_chgs {v : Value} {d : DataW H} {p : List MemPlace} {a : Option Addr} {len cap : Nat} (hv : v = .slice a len cap) (h : DataW.Trod enc Try.prog W 0 (fun _ => true) true 22 v d p) : ∃ cs : List Chg, cs.length = len ∧ ChgIn W a cap cs := by
  subst hv
  obtain ⟨fuel, hf⟩ := h
  rcases open_slice Try.underlying22 hf with ⟨hc, _⟩ | ⟨x, l, c, m, n', D, Pl, hc, _, hl, hm, hmm, _, hx⟩
  · simp [Value.cells] at hc
    obtain ⟨rfl, rfl, rfl⟩ := hc
    exact ⟨[], rfl, by simp, by simp, .inl rfl, fun i hi => absurd hi (Nat.not_lt_zero i)⟩
  · simp [Value.cells] at hc
    obtain ⟨rfl, rfl, rfl⟩ := hc
    have hm' : m = cap := by simpa using hmm
    subst hm'
    have hc4 : Try.prog.cellsOf 61 = 2 := by kernel_rfl
    rw [hc4] at hx
    have hS : ∀ i, i < m → ∃ c : Chg, (W.cell? ⟨x.block, x.off + i * 2, none⟩ = some (.int .i64 c.1) ∧ W.cell? ⟨x.block, x.off + i * 2 + 1, none⟩ = some (.int .u64 c.2) ∧ (Lit.int .i64 c.1).wf = true ∧ (Lit.int .u64 c.2).wf = true) ∧ (i = 0 → x = ⟨x.block, x.off, none⟩ ∧ x.block < W.heap.size) := fun i hi => by
      obtain ⟨cs, h1, h2⟩ := hx i hi
      obtain ⟨_, hlen, hcell⟩ := World.cells?_some h1
      match cs, hlen with
      | [v0, v1], _ =>
        obtain ⟨o, rfl, rfl, w0, w1⟩ := open_chg (n := n') h2
        have c0 := hcell 0 (by omega)
        have c1 := hcell 1 (by omega)
        have ea : x.add (i * 2) = ⟨x.block, x.off + i * 2, none⟩ := addr_at (v := .int .i64 o.1) (by simpa [Addr.add] using c0)
        rw [ea, add_none] at c0 c1
        refine ⟨o, ⟨by simpa using c0, by simpa using c1, w0, w1⟩, fun e => ?_⟩
        subst e
        refine ⟨by simpa [Addr.add] using ea, ?_⟩
        exact World.block_lt_of_cell? W ⟨x.block, x.off, none⟩ (by simpa using c0)
    haveI : Inhabited Chg := ⟨(0, 0)⟩
    obtain ⟨O, hO⟩ := choose_lt (α := Chg) hS
    refine ⟨(List.range len).map O, by simp, by simpa using hl, by unfold maxLen at hm; omega, ?_, ?_⟩
    · by_cases h0 : len = 0
      · left; subst h0; rfl
      · right
        obtain ⟨e1, e2⟩ := (hO 0 (by omega)).2 rfl
        refine ⟨x.block, x.off, by rw [← e1], e2, fun i hi => ?_⟩
        simp at hi
        have := (hO i (by omega)).1
        simpa [hi] using ⟨this.1, this.2.1⟩
    · intro i hi
      simp at hi
      have := (hO i (by omega)).1
      simpa [hi] using this.2.2
theorem open_nums {n : Nat} {v : Value} {x : DataW H × List MemPlace} (h : DataW.trod enc Try.prog W 0 (fun _ => true) true n 27 [v] = some x) : ∃ a k c f, NumsIn W v a k c f := by
  rcases open_ints Try.underlying27 Try.underlying3 (by kernel_rfl) h with ⟨hcs, _⟩ | ⟨x, l, c, zs, hcs, _, hl, hm, hz, hx, hcell, hwz⟩
  · cases hcs
    exact ⟨none, 0, 0, fun _ => 0, rfl, .inl rfl, fun i hi => absurd hi (Nat.not_lt_zero i), by unfold maxLen; omega, Nat.le_refl _⟩
  · cases hcs
    have hz' : zs.length = c := by simpa using hz
    refine ⟨some x, l, c, fun i => zs.getD i 0, rfl, ?_, fun i hi => ?_, by omega, by omega⟩
    · by_cases h0 : l = 0
      · exact .inl h0
      · obtain ⟨b, off, rfl, hc⟩ := ints_at hcell (by omega)
        exact .inr ⟨b, off, rfl, World.block_lt_of_cell? W _ (hc 0 (by omega)), fun i hi => hc i (by omega)⟩
    · exact hwz _ (by simp [show i < zs.length by omega])

theorem list5 {α : Type} (l : List α) (n : Nat) (h : l.length = n + 5) : ∃ a b c d e r, l = a :: b :: c :: d :: e :: r ∧ r.length = n := by
  match l, h with
  | a :: b :: c :: d :: e :: r, h => exact ⟨a, b, c, d, e, r, rfl, by simpa using h⟩
theorem open_bop {fuel : Nat} {c0 c1 c2 c3 : Value} {x : DataW H × List MemPlace} (h : DataW.trod enc Try.prog W 0 (fun _ => true) true fuel 50 [c0, c1, c2, c3] = some x) :
    ∃ o : Bop, [c0, c1, c2, c3] = o.vals ∧ BopIn o := by
  obtain ⟨xs, n, _, hx, hl, hlen, hfs⟩ := DataW.trod_struct Try.underlying50 h
  have f0 := hfs 0 _ rfl
  have f1 := hfs 1 _ rfl
  have f2 := hfs 2 _ rfl
  have f3 := hfs 3 _ rfl
  simp [cellsI, cellsS] at f0 f1 f2 f3
  match xs, hlen with
  | [y0, y1, y2, y3], _ =>
    simp at f0 f1 f2 f3
    obtain ⟨x0, e0, rfl, u0⟩ := DataW.trod_int Try.underlying3 f0
    obtain ⟨x1, e1, rfl, u1⟩ := DataW.trod_int Try.underlying3 f1
    obtain ⟨x2, e2, rfl, u2⟩ := DataW.trod_int Try.underlying3 f2
    obtain ⟨s, e3, _, u3⟩ := DataW.trod_string Try.underlying9 f3
    simp at e0 e1 e2 e3
    subst e0 e1 e2 e3
    exact ⟨⟨x0, x1, x2, s⟩, rfl, u0, u1, u2, u3⟩
theorem cellsO : Try.prog.cellsOf 50 = 4 := by kernel_rfl
theorem list4 {α : Type} (l : List α) (h : (⟨l⟩ : Array α).size = 4) : ∃ a b c d, l = [a, b, c, d] := by
  match l, h with
  | [a, b, c, d], _ => exact ⟨a, b, c, d, rfl⟩
theorem list10 {α : Type} (l : List α) (h : (⟨l⟩ : Array α).size = 10) : ∃ a b c d e f g i j k, l = [a, b, c, d, e, f, g, i, j, k] := by
  obtain ⟨a, b, c, d, e, l1, rfl, h1⟩ := list5 l 5 h
  obtain ⟨f, g, i, j, k, l2, rfl, h2⟩ := list5 l1 0 h1
  obtain rfl := List.length_eq_zero_iff.1 h2
  exact ⟨a, b, c, d, e, f, g, i, j, k, rfl⟩
set_option maxRecDepth 100000 in
/-- A step by value. -/
theorem open_bstep {r : Reach} {b0 : Nat} {v : Value} {d : DataW H} {p : List MemPlace} (hv : Value.okWide Try.prog W r b0 50 v) (h : DataW.Trod enc Try.prog W 0 (fun _ => true) true 50 v d p) : ∃ o : Bop, v = .agg o.vals.toArray ∧ BopIn o := by
  obtain ⟨cs, rfl, hsz⟩ := okWide_struct Try.underlying50 hv
  rw [cellsO] at hsz
  obtain ⟨l⟩ := cs
  obtain ⟨a, b, c, e, rfl⟩ := list4 l hsz
  obtain ⟨fuel, hf⟩ := h
  obtain ⟨o, e1, h1⟩ := open_bop (fuel := fuel) hf
  exact ⟨o, by rw [e1], h1⟩
set_option maxRecDepth 100000 in
/-- A card by value. -/
theorem open_bcard {r : Reach} {b0 : Nat} {v : Value} {d : DataW H} {p : List MemPlace} (hv : Value.okWide Try.prog W r b0 26 v) (h : DataW.Trod enc Try.prog W 0 (fun _ => true) true 26 v d p) : ∃ c : Crd, v = .agg c.vals.toArray ∧ (Lit.int .u64 c.v).wf = true := by
  obtain ⟨cs, rfl, hsz⟩ := okWide_struct Try.underlying26 hv
  rw [cellsK] at hsz
  obtain ⟨l⟩ := cs
  obtain ⟨a, b, c, e, f, g, i, j, k, q, rfl⟩ := list10 l hsz
  obtain ⟨fuel, hf⟩ := h
  obtain ⟨o, e1, h1⟩ := open_crd (fuel := fuel) hf
  exact ⟨o, by rw [e1], h1⟩
end

end Go.Proofs.Ytdjnkibnnjobpaa
