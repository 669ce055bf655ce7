/- What came in: words, numbers, changes, a step with its card and its slices, taken apart. -/
import Derived.Test.YtomlbifplliakaaGreatVwI
import Derived.Lib.SmallJoins
import Derived.ProofKit
import Derived.OpenShut
import Derived.SizedLaws
namespace Go.Proofs.YtomlbifplliakaaGreat
open Go.RowKit Go.Maps Go.ChangeMaps Go.ChangeShapes Go.WideShapes Go.ChangeAt Go.Deep Go.Joins
set_option linter.unusedVariables false

theorem own : ownKnob Tryz.prog.godebug = none := by kernel_rfl
theorem laidOut : laidOutB Tryz.prog = true := by kernel_rfl
theorem cellsI : Tryz.prog.cellsOf 3 = 1 := by kernel_rfl
theorem cellsU : Tryz.prog.cellsOf 35 = 1 := by kernel_rfl
theorem cellsA5 : Tryz.prog.cellsOf 36 = 5 := by kernel_rfl
theorem cellsK : Tryz.prog.cellsOf 38 = 10 := by kernel_rfl
theorem cellsUL : Tryz.prog.cellsOf 25 = 1 := by kernel_rfl
theorem cellsIL : Tryz.prog.cellsOf 39 = 1 := by kernel_rfl
theorem cellsO : Tryz.prog.cellsOf 41 = 15 := by kernel_rfl

/-- An address whose cell is there has no spot. -/
theorem spot_none {w : World} {a : Addr} {v : Value} (h : w.cell? a = some v) : a = ⟨a.block, a.off, none⟩ := by
  obtain ⟨b, o, s⟩ := a
  cases s with
  | none => rfl
  | some x =>
    unfold World.cell? at h
    split at h
    · simp at h
    · cases h
theorem addr_at {w : World} {x : Addr} {k : Nat} {v : Value} (h : w.cell? (x.add k) = some v) : x.add k = ⟨x.block, x.off + k, none⟩ := by
  have hs := spot_none h
  have hbk : (x.add k).block = x.block := by unfold Addr.add; split <;> rfl
  have hof : (x.add k).off = x.off + k := by
    unfold Addr.add
    by_cases e : k = 0
    · rw [if_pos e, e]; rfl
    · rw [if_neg e]
  exact hs.trans (by rw [hbk, hof])
/-- The bounds of an int. -/
def In64 (x : Int) : Prop := -9223372036854775808 ≤ x ∧ x ≤ 9223372036854775807
def InU (x : Int) : Prop := 0 ≤ x ∧ x ≤ 18446744073709551615

/-- A slice of words that came in. -/
structure WordsIn (W : World) (v : Value) (a : Option Addr) (n c : Nat) (f : Nat → Int) : Prop where
  val : v = .slice a n c
  at_ : UAt W a n f
  ok : ∀ i, i < n → (Lit.int .u64 (f i)).wf = true
  len : n ≤ maxLen
/-- A slice of numbers that came in. -/
structure NumsIn (W : World) (v : Value) (a : Option Addr) (n c : Nat) (f : Nat → Int) : Prop where
  val : v = .slice a n c
  at_ : IntsAt W a n f
  ok : ∀ i, i < n → (Lit.int .i64 (f i)).wf = true
  len : n ≤ maxLen

section
variable {H : Type} {enc : TypeId × Value → H} {W : World}
theorem open_words {n : Nat} {v : Value} {x : DataW H × List MemPlace} (h : DataW.trod enc Tryz.prog W 0 (fun _ => true) true n 25 [v] = some x) : ∃ a k c f, WordsIn W v a k c f := by
  rcases open_ints Tryz.underlying25 Tryz.underlying35 (by kernel_rfl) h with ⟨hcs, _⟩ | ⟨x, l, c, zs, hcs, _, hl, hm, hz, hx, hcell, hwz⟩
  · cases hcs
    exact ⟨none, 0, 0, fun _ => 0, rfl, .inl rfl, fun i hi => absurd hi (Nat.not_lt_zero i), by unfold maxLen; omega⟩
  · cases hcs
    have hz' : zs.length = c := by simpa using hz
    refine ⟨some x, l, c, fun i => zs.getD i 0, rfl, ?_, fun i hi => ?_, by omega⟩
    · by_cases h0 : l = 0
      · exact .inl h0
      · obtain ⟨b, off, rfl, hc⟩ := ints_at hcell (by omega)
        exact .inr ⟨b, off, rfl, World.block_lt_of_cell? W _ (hc 0 (by omega)), fun i hi => hc i (by omega)⟩
    · exact hwz _ (by simp [show i < zs.length by omega])
theorem open_nums {n : Nat} {v : Value} {x : DataW H × List MemPlace} (h : DataW.trod enc Tryz.prog W 0 (fun _ => true) true n 39 [v] = some x) : ∃ a k c f, NumsIn W v a k c f := by
  rcases open_ints Tryz.underlying39 Tryz.underlying3 (by kernel_rfl) h with ⟨hcs, _⟩ | ⟨x, l, c, zs, hcs, _, hl, hm, hz, hx, hcell, hwz⟩
  · cases hcs
    exact ⟨none, 0, 0, fun _ => 0, rfl, .inl rfl, fun i hi => absurd hi (Nat.not_lt_zero i), by unfold maxLen; omega⟩
  · cases hcs
    have hz' : zs.length = c := by simpa using hz
    refine ⟨some x, l, c, fun i => zs.getD i 0, rfl, ?_, fun i hi => ?_, by omega⟩
    · by_cases h0 : l = 0
      · exact .inl h0
      · obtain ⟨b, off, rfl, hc⟩ := ints_at hcell (by omega)
        exact .inr ⟨b, off, rfl, World.block_lt_of_cell? W _ (hc 0 (by omega)), fun i hi => hc i (by omega)⟩
    · exact hwz _ (by simp [show i < zs.length by omega])

set_option maxRecDepth 100000 in
theorem array5 {w : World} {base : Nat} {spare : Nat → Bool} {held : Bool} {fuel : Nat} {c0 c1 c2 c3 c4 : Value} {x : DataW H × List MemPlace}
    (h : DataW.trod enc Tryz.prog w base spare held fuel 36 [c0, c1, c2, c3, c4] = some x) :
    ∃ y0 y1 y2 y3 y4 n, DataW.trod enc Tryz.prog w base spare held n 3 [c0] = some y0 ∧ DataW.trod enc Tryz.prog w base spare held n 3 [c1] = some y1 ∧ DataW.trod enc Tryz.prog w base spare held n 3 [c2] = some y2 ∧ DataW.trod enc Tryz.prog w base spare held n 3 [c3] = some y3 ∧ DataW.trod enc Tryz.prog w base spare held n 3 [c4] = some y4 := by
  cases fuel with
  | zero => simp [DataW.trod] at h
  | succ n =>
    unfold DataW.trod at h
    rw [Tryz.underlying36] at h
    have r5 : List.range 5 = [0, 1, 2, 3, 4] := rfl
    simp [r5, cellsI] at h
    obtain ⟨_, h⟩ := h
    cases h0 : DataW.trod enc Tryz.prog w base spare held n 3 [c0] with
    | none => simp [h0] at h
    | some y0 =>
      cases h1 : DataW.trod enc Tryz.prog w base spare held n 3 [c1] with
      | none => simp [h0, h1] at h
      | some y1 =>
        cases h2 : DataW.trod enc Tryz.prog w base spare held n 3 [c2] with
        | none => simp [h0, h1, h2] at h
        | some y2 =>
          cases h3 : DataW.trod enc Tryz.prog w base spare held n 3 [c3] with
          | none => simp [h0, h1, h2, h3] at h
          | some y3 =>
            cases h4 : DataW.trod enc Tryz.prog w base spare held n 3 [c4] with
            | none => simp [h0, h1, h2, h3, h4] at h
            | some y4 => exact ⟨y0, y1, y2, y3, y4, n, h0, h1, h2, h3, h4⟩
end

/-- A card's ten numbers. -/
structure Crd where
  k : Int
  l : Int
  s : Int
  v : Int
  d0 : Int
  d1 : Int
  d2 : Int
  d3 : Int
  d4 : Int
  m : Int
def Crd.vals (c : Crd) : List Value := [.int .i64 c.k, .int .i64 c.l, .int .i64 c.s, .int .u64 c.v, .int .i64 c.d0, .int .i64 c.d1, .int .i64 c.d2, .int .i64 c.d3, .int .i64 c.d4, .int .i64 c.m]
/-- A step: its numbers, its card, its two slices. -/
structure Vop where
  kind : Int
  at_ : Int
  v : Int
  c : Crd
  la : Option Addr
  ln : Nat
  lc : Nat
  lf : Nat → Int
  na : Option Addr
  nn : Nat
  nc : Nat
  nf : Nat → Int
def Vop.vals (o : Vop) : List Value := [.int .i64 o.kind, .int .i64 o.at_, .int .u64 o.v, .int .i64 o.c.k, .int .i64 o.c.l, .int .i64 o.c.s, .int .u64 o.c.v, .int .i64 o.c.d0, .int .i64 o.c.d1, .int .i64 o.c.d2, .int .i64 o.c.d3, .int .i64 o.c.d4, .int .i64 o.c.m, .slice o.la o.ln o.lc, .slice o.na o.nn o.nc]
structure VopIn (W : World) (o : Vop) : Prop where
  at_ : (Lit.int .i64 o.at_).wf = true
  v : (Lit.int .u64 o.v).wf = true
  cv : (Lit.int .u64 o.c.v).wf = true
  kind : (Lit.int .i64 o.kind).wf = true
  l : WordsIn W (.slice o.la o.ln o.lc) o.la o.ln o.lc o.lf
  n : NumsIn W (.slice o.na o.nn o.nc) o.na o.nn o.nc o.nf

section
variable {H : Type} {enc : TypeId × Value → H} {W : World}
theorem open_crd {fuel : Nat} {c0 c1 c2 c3 c4 c5 c6 c7 c8 c9 : Value} {x : DataW H × List MemPlace} (h : DataW.trod enc Tryz.prog W 0 (fun _ => true) true fuel 38 [c0, c1, c2, c3, c4, c5, c6, c7, c8, c9] = some x) :
    ∃ c : Crd, [c0, c1, c2, c3, c4, c5, c6, c7, c8, c9] = c.vals ∧ (Lit.int .u64 c.v).wf = true := by
  obtain ⟨xs, n, _, hx, hl, hlen, hfs⟩ := DataW.trod_struct Tryz.underlying38 h
  have f0 := hfs 0 _ rfl
  have f1 := hfs 1 _ rfl
  have f2 := hfs 2 _ rfl
  have f3 := hfs 3 _ rfl
  have f4 := hfs 4 _ rfl
  have f5 := hfs 5 _ rfl
  simp [cellsI, cellsU, cellsA5] at f0 f1 f2 f3 f4 f5
  match xs, hlen with
  | [y0, y1, y2, y3, y4, y5], _ =>
    simp at f0 f1 f2 f3 f4 f5
    obtain ⟨z0, z1, z2, z3, z4, n', g0, g1, g2, g3, g4⟩ := array5 f4
    obtain ⟨x0, e0, rfl, u0⟩ := DataW.trod_int Tryz.underlying3 f0
    obtain ⟨x1, e1, rfl, u1⟩ := DataW.trod_int Tryz.underlying3 f1
    obtain ⟨x2, e2, rfl, u2⟩ := DataW.trod_int Tryz.underlying3 f2
    obtain ⟨x3, e3, rfl, u3⟩ := DataW.trod_int Tryz.underlying35 f3
    obtain ⟨x4, e4, rfl, u4⟩ := DataW.trod_int Tryz.underlying3 g0
    obtain ⟨x5, e5, rfl, u5⟩ := DataW.trod_int Tryz.underlying3 g1
    obtain ⟨x6, e6, rfl, u6⟩ := DataW.trod_int Tryz.underlying3 g2
    obtain ⟨x7, e7, rfl, u7⟩ := DataW.trod_int Tryz.underlying3 g3
    obtain ⟨x8, e8, rfl, u8⟩ := DataW.trod_int Tryz.underlying3 g4
    obtain ⟨x9, e9, rfl, u9⟩ := DataW.trod_int Tryz.underlying3 f5
    simp at e0 e1 e2 e3 e4 e5 e6 e7 e8 e9
    subst e0 e1 e2 e3 e4 e5 e6 e7 e8 e9
    exact ⟨⟨x0, x1, x2, x3, x4, x5, x6, x7, x8, x9⟩, rfl, u3⟩

theorem open_stp {fuel : Nat} {c0 c1 c2 c3 c4 c5 c6 c7 c8 c9 c10 c11 c12 c13 c14 : Value} {x : DataW H × List MemPlace} (h : DataW.trod enc Tryz.prog W 0 (fun _ => true) true fuel 41 [c0, c1, c2, c3, c4, c5, c6, c7, c8, c9, c10, c11, c12, c13, c14] = some x) :
    ∃ o : Vop, [c0, c1, c2, c3, c4, c5, c6, c7, c8, c9, c10, c11, c12, c13, c14] = o.vals ∧ VopIn W o := by
  obtain ⟨xs, n, _, hx, hl, hlen, hfs⟩ := DataW.trod_struct Tryz.underlying41 h
  have f0 := hfs 0 _ rfl
  have f1 := hfs 1 _ rfl
  have f2 := hfs 2 _ rfl
  have f3 := hfs 3 _ rfl
  have f4 := hfs 4 _ rfl
  have f5 := hfs 5 _ rfl
  simp [cellsI, cellsU, cellsK, cellsUL, cellsIL] at f0 f1 f2 f3 f4 f5
  match xs, hlen with
  | [y0, y1, y2, y3, y4, y5], _ =>
    simp at f0 f1 f2 f3 f4 f5
    obtain ⟨x0, e0, rfl, u0⟩ := DataW.trod_int Tryz.underlying3 f0
    obtain ⟨x1, e1, rfl, u1⟩ := DataW.trod_int Tryz.underlying3 f1
    obtain ⟨x2, e2, rfl, u2⟩ := DataW.trod_int Tryz.underlying35 f2
    obtain ⟨cr, e3, u3⟩ := open_crd f3
    obtain ⟨a4, k4, q4, g4, w4⟩ := open_words f4
    obtain ⟨a5, k5, q5, g5, w5⟩ := open_nums f5
    have e4 := w4.val
    have e5 := w5.val
    simp at e0 e1 e2
    unfold Crd.vals at e3
    simp at e3
    obtain ⟨r0, r1, r2, r3, r4, r5, r6, r7, r8, r9⟩ := e3
    subst e0 e1 e2 r0 r1 r2 r3 r4 r5 r6 r7 r8 r9 e4 e5
    exact ⟨⟨x0, x1, x2, cr, a4, k4, q4, g4, a5, k5, q5, g5⟩, rfl, u1, u2, u3, u0, w4, w5⟩

theorem list5 {α : Type} (l : List α) (n : Nat) (h : l.length = n + 5) : ∃ a b c d e r, l = a :: b :: c :: d :: e :: r ∧ r.length = n := by
  match l, h with
  | a :: b :: c :: d :: e :: r, h => exact ⟨a, b, c, d, e, r, rfl, by simpa using h⟩
theorem list15 {α : Type} (l : List α) (h : (⟨l⟩ : Array α).size = 15) : ∃ a b c d e f g i j k p q r s t, l = [a, b, c, d, e, f, g, i, j, k, p, q, r, s, t] := by
  obtain ⟨a, b, c, d, e, l1, rfl, h1⟩ := list5 l 10 h
  obtain ⟨f, g, i, j, k, l2, rfl, h2⟩ := list5 l1 5 h1
  obtain ⟨p, q, r, s, t, l3, rfl, h3⟩ := list5 l2 0 h2
  obtain rfl := List.length_eq_zero_iff.1 h3
  exact ⟨a, b, c, d, e, f, g, i, j, k, p, q, r, s, t, rfl⟩
set_option maxRecDepth 100000 in
/-- A step by value. -/
theorem open_step {r : Reach} {b0 : Nat} {v : Value} {d : DataW H} {p : List MemPlace} (hv : Value.okWide Tryz.prog W r b0 41 v) (h : DataW.Trod enc Tryz.prog W 0 (fun _ => true) true 41 v d p) : ∃ o : Vop, v = .agg o.vals.toArray ∧ VopIn W o := by
  obtain ⟨cs, rfl, hsz⟩ := okWide_struct Tryz.underlying41 hv
  rw [cellsO] at hsz
  obtain ⟨l⟩ := cs
  obtain ⟨a, b, c, d', e, f, g, i, j, k, p', q, r', s, t, rfl⟩ := list15 l hsz
  obtain ⟨fuel, hf⟩ := h
  obtain ⟨o, e1, h1⟩ := open_stp (fuel := fuel) hf
  exact ⟨o, by rw [e1], h1⟩
end

end Go.Proofs.YtomlbifplliakaaGreat
