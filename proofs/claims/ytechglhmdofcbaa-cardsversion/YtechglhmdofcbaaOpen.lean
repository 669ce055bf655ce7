/- A card that comes in by value, taken apart: its ten numbers and their bounds; a slice of words that comes in. -/
import Derived.Test.YtechglhmdofcbaaRows
import Derived.Test.YtechglhmdofcbaaLives
import Derived.ProofKit
import Derived.OpenShut
import Derived.SizedLaws
import Derived.Lib.SmallJoins
namespace Go.Proofs.Ytechglhmdofcbaa
open Go.ChangeShapes Go.WideShapes Go.ChangeAt Go.RowKit Go.Joins
set_option linter.unusedVariables false

theorem own : ownKnob Try.prog.godebug = none := by kernel_rfl
theorem laidOut : laidOutB Try.prog = true := by kernel_rfl
theorem bytes22 : Try.prog.bytesOf 22 = 8 := by kernel_rfl
theorem cells3 : Try.prog.cellsOf 3 = 1 := by kernel_rfl
theorem cells22 : Try.prog.cellsOf 22 = 1 := by kernel_rfl
theorem cells23 : Try.prog.cellsOf 23 = 5 := by kernel_rfl
theorem cells25 : Try.prog.cellsOf 25 = 10 := by kernel_rfl
theorem list10 {α : Type} (l : List α) (h : (⟨l⟩ : Array α).size = 10) : ∃ a b c d e f g i j k, l = [a, b, c, d, e, f, g, i, j, k] := by
  match l, h with
  | [a, b, c, d, e, f, g, i, j, k], _ => exact ⟨a, b, c, d, e, f, g, i, j, k, rfl⟩

theorem array5 {H : Type} {enc : TypeId × Value → H} {w : World} {base : Nat} {spare : Nat → Bool} {held : Bool} {fuel : Nat} {c0 c1 c2 c3 c4 : Value} {x : DataW H × List MemPlace}
    (h : DataW.trod enc Try.prog w base spare held fuel 23 [c0, c1, c2, c3, c4] = some x) :
    ∃ y0 y1 y2 y3 y4 n, DataW.trod enc Try.prog w base spare held n 3 [c0] = some y0 ∧ DataW.trod enc Try.prog w base spare held n 3 [c1] = some y1 ∧ DataW.trod enc Try.prog w base spare held n 3 [c2] = some y2 ∧ DataW.trod enc Try.prog w base spare held n 3 [c3] = some y3 ∧ DataW.trod enc Try.prog w base spare held n 3 [c4] = some y4 := by
  cases fuel with
  | zero => simp [DataW.trod] at h
  | succ n =>
    unfold DataW.trod at h
    rw [Try.underlying23] at h
    have r5 : List.range 5 = [0, 1, 2, 3, 4] := rfl
    simp [r5, cells3] at h
    obtain ⟨_, h⟩ := h
    cases h0 : DataW.trod enc Try.prog w base spare held n 3 [c0] with
    | none => simp [h0] at h
    | some y0 =>
      cases h1 : DataW.trod enc Try.prog w base spare held n 3 [c1] with
      | none => simp [h0, h1] at h
      | some y1 =>
        cases h2 : DataW.trod enc Try.prog w base spare held n 3 [c2] with
        | none => simp [h0, h1, h2] at h
        | some y2 =>
          cases h3 : DataW.trod enc Try.prog w base spare held n 3 [c3] with
          | none => simp [h0, h1, h2, h3] at h
          | some y3 =>
            cases h4 : DataW.trod enc Try.prog w base spare held n 3 [c4] with
            | none => simp [h0, h1, h2, h3, h4] at h
            | some y4 => exact ⟨y0, y1, y2, y3, y4, n, h0, h1, h2, h3, h4⟩

/-- The bounds of an int. -/
def In64 (x : Int) : Prop := -9223372036854775808 ≤ x ∧ x ≤ 9223372036854775807
theorem open_card {H : Type} {enc : TypeId × Value → H} {w : World} {r : Reach} {b0 base : Nat} {spare : Nat → Bool} {held : Bool} {v : Value} {d : DataW H} {p : List MemPlace}
    (hv : Value.okWide Try.prog w r b0 25 v) (h : DataW.Trod enc Try.prog w base spare held 25 v d p) :
    ∃ k l s ver d0 d1 d2 d3 d4 m : Int, v = .agg #[.int .i64 k, .int .i64 l, .int .i64 s, .int .u64 ver, .int .i64 d0, .int .i64 d1, .int .i64 d2, .int .i64 d3, .int .i64 d4, .int .i64 m] ∧ In64 k ∧ In64 l ∧ In64 s ∧ (0 ≤ ver ∧ ver ≤ 18446744073709551615) ∧ In64 d0 ∧ In64 d1 ∧ In64 d2 ∧ In64 d3 ∧ In64 d4 ∧ In64 m := by
  obtain ⟨cs, rfl, hsz⟩ := okWide_struct Try.underlying25 hv
  rw [cells25] at hsz
  obtain ⟨l⟩ := cs
  obtain ⟨c0, c1, c2, c3, c4, c5, c6, c7, c8, c9, rfl⟩ := list10 l hsz
  obtain ⟨fuel, hf⟩ := h
  obtain ⟨xs, n, _, hx, hl, hlen, hfs⟩ := DataW.trod_struct Try.underlying25 hf
  have f0 := hfs 0 _ rfl
  have f1 := hfs 1 _ rfl
  have f2 := hfs 2 _ rfl
  have f3 := hfs 3 _ rfl
  have f4 := hfs 4 _ rfl
  have f5 := hfs 5 _ rfl
  simp [Value.cells, cells3, cells22, cells23] at f0 f1 f2 f3 f4 f5
  match xs, hlen with
  | [y0, y1, y2, y3, y4, y5], _ =>
    simp at f0 f1 f2 f3 f4 f5
    obtain ⟨z0, z1, z2, z3, z4, n', g0, g1, g2, g3, g4⟩ := array5 f4
    obtain ⟨x0, e0, rfl, u0⟩ := DataW.trod_int Try.underlying3 f0
    obtain ⟨x1, e1, rfl, u1⟩ := DataW.trod_int Try.underlying3 f1
    obtain ⟨x2, e2, rfl, u2⟩ := DataW.trod_int Try.underlying3 f2
    obtain ⟨x3, e3, rfl, u3⟩ := DataW.trod_int Try.underlying22 f3
    obtain ⟨x4, e4, rfl, u4⟩ := DataW.trod_int Try.underlying3 g0
    obtain ⟨x5, e5, rfl, u5⟩ := DataW.trod_int Try.underlying3 g1
    obtain ⟨x6, e6, rfl, u6⟩ := DataW.trod_int Try.underlying3 g2
    obtain ⟨x7, e7, rfl, u7⟩ := DataW.trod_int Try.underlying3 g3
    obtain ⟨x8, e8, rfl, u8⟩ := DataW.trod_int Try.underlying3 g4
    obtain ⟨x9, e9, rfl, u9⟩ := DataW.trod_int Try.underlying3 f5
    simp at e0 e1 e2 e3 e4 e5 e6 e7 e8 e9
    subst e0 e1 e2 e3 e4 e5 e6 e7 e8 e9
    exact ⟨x0, x1, x2, x3, x4, x5, x6, x7, x8, x9, rfl, bounds_i64 u0, bounds_i64 u1, bounds_i64 u2, bounds_u64 u3, bounds_i64 u4, bounds_i64 u5, bounds_i64 u6, bounds_i64 u7, bounds_i64 u8, bounds_i64 u9⟩

theorem cell_block {w : World} {a : Addr} {v : Value} (h : w.cell? a = some v) : a.block < w.heap.size := by
  by_cases hb : a.block < w.heap.size
  · exact hb
  · have e : w.heap[a.block]? = none := Array.getElem?_eq_none (by omega)
    unfold World.cell? at h
    rw [e] at h
    simp at h
/-- A word's bounds. -/
def InU (x : Int) : Prop := 0 ≤ x ∧ x ≤ 18446744073709551615
/-- A slice of words: not eight of them, or eight that lie somewhere. -/
def Words (w : World) (a : Option Addr) (n : Nat) : Prop := ¬ n = 8 ∨ n = 8 ∧ ∃ b o a0 a1 a2 a3 a4 a5 a6 a7, a = some ⟨b, o, none⟩ ∧ Src w b o a0 a1 a2 a3 a4 a5 a6 a7 ∧ InU a0 ∧ InU a2 ∧ InU a3
theorem open_words {H : Type} {enc : TypeId × Value → H} {w : World} {r : Reach} {b0 : Nat} {v : Value} {d : DataW H} {p : List MemPlace}
    (hv : Value.okWide Try.prog w r b0 27 v) (h : DataW.Trod enc Try.prog w 0 (fun _ => true) true 27 v d p) :
    ∃ (a : Option Addr) (len cap : Nat), v = .slice a len cap ∧ Words w a len := by
  obtain ⟨a, len, cap, rfl⟩ := okWide_slice Try.underlying27 hv
  refine ⟨a, len, cap, rfl, ?_⟩
  by_cases h8 : len = 8
  case neg => exact .inl h8
  obtain ⟨fuel, hf⟩ := h
  rcases open_ints Try.underlying27 Try.underlying22 (by kernel_rfl) hf with ⟨hcs, _⟩ | ⟨x, l, c, zs, hcs, _, hl, hm, hz, hx, hcell, hwz⟩
  · simp [Value.cells] at hcs
    omega
  · simp [Value.cells] at hcs
    obtain ⟨rfl, rfl, rfl⟩ := hcs
    have hz' : zs.length = cap := by simpa using hz
    obtain ⟨b, off, rfl, hc⟩ := ints_at hcell (by omega)
    have hr : ∀ j, InU (zs.getD j 0) := fun j => by
      have := range_u64 hwz j
      rw [← List.getD_eq_getElem?_getD] at this
      exact this
    refine .inr ⟨h8, b, off, zs.getD 0 0, zs.getD 1 0, zs.getD 2 0, zs.getD 3 0, zs.getD 4 0, zs.getD 5 0, zs.getD 6 0, zs.getD 7 0, rfl, ⟨cell_block (hc 0 (by omega)), hc 0 (by omega), hc 1 (by omega), hc 2 (by omega), hc 3 (by omega), hc 4 (by omega), hc 5 (by omega), hc 6 (by omega), hc 7 (by omega)⟩, hr 0, hr 2, hr 3⟩
end Go.Proofs.Ytechglhmdofcbaa
