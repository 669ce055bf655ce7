/- What three float64s and two ints that came in are. -/
import Derived.Test.YtnebmbabfghlaaaDoorOpen
namespace Go.Proofs.YtnebmbabfghlaaaDoor
open Go.RowKit Go.ChangeMaps Go.Deep Go.WideShapes
theorem cells33 : Tryd.prog.cellsOf 33 = 3 := by kernel_rfl
theorem cells34 : Tryd.prog.cellsOf 34 = 2 := by kernel_rfl
theorem cells23 : Tryd.prog.cellsOf 23 = 1 := by kernel_rfl
theorem cells3 : Tryd.prog.cellsOf 3 = 1 := by kernel_rfl
theorem list2 {α : Type} (l : List α) (h : (⟨l⟩ : Array α).size = 2) : ∃ a b, l = [a, b] := by
  match l, h with
  | [a, b], _ => exact ⟨a, b, rfl⟩
theorem list3 {α : Type} (l : List α) (h : (⟨l⟩ : Array α).size = 3) : ∃ a b c, l = [a, b, c] := by
  match l, h with
  | [a, b, c], _ => exact ⟨a, b, c, rfl⟩
section
variable {H : Type} {enc : TypeId × Value → H} {W : World}
set_option maxRecDepth 100000 in
theorem open_three {r : Reach} {b0 : Nat} {v : Value} {d : DataW H} {p : List MemPlace} (hv : Value.okWide Tryd.prog W r b0 33 v) (h : DataW.Trod enc Tryd.prog W 0 (fun _ => true) true 33 v d p) :
    ∃ x0 x1 x2 : Nat, v = .agg #[.float .f64 x0, .float .f64 x1, .float .f64 x2] ∧ x0 < 18446744073709551616 ∧ x1 < 18446744073709551616 ∧ x2 < 18446744073709551616 := by
  obtain ⟨cs, rfl, hsz⟩ : ∃ cs : Array Value, v = .agg cs ∧ cs.size = Tryd.prog.cellsOf 33 := by
    have h1 : ∃ cs, v = .agg cs ∧ cs.size = Tryd.prog.cellsOf 33 ∧ Row.okWide Tryd.prog W r b0 33 cs := by simpa [Value.okWide, Tryd.underlying33] using hv
    obtain ⟨cs, e1, e2, _⟩ := h1
    exact ⟨cs, e1, e2⟩
  rw [cells33] at hsz
  obtain ⟨l⟩ := cs
  obtain ⟨c0, c1, c2, rfl⟩ := list3 l hsz
  obtain ⟨fuel, hf⟩ := h
  obtain ⟨ys, m, _, hx, _, hl, hel⟩ := DataW.trod_array Tryd.underlying33 hf
  obtain ⟨y0, y1, y2, rfl⟩ : ∃ y0 y1 y2, ys = [y0, y1, y2] := by
    match ys, hl with
    | [a, b, c], _ => exact ⟨a, b, c, rfl⟩
  have hy0 := hel 0 (by omega)
  have hy1 := hel 1 (by omega)
  have hy2 := hel 2 (by omega)
  simp [cells23, Value.cells] at hy0 hy1 hy2
  obtain ⟨x0, e0, u0⟩ := trod_float1 hy0
  obtain ⟨x1, e1, u1⟩ := trod_float1 hy1
  obtain ⟨x2, e2, u2⟩ := trod_float1 hy2
  simp at e0 e1 e2
  subst e0 e1 e2
  exact ⟨x0, x1, x2, rfl, u0, u1, u2⟩
set_option maxRecDepth 100000 in
theorem open_two {r : Reach} {b0 : Nat} {v : Value} {d : DataW H} {p : List MemPlace} (hv : Value.okWide Tryd.prog W r b0 34 v) (h : DataW.Trod enc Tryd.prog W 0 (fun _ => true) true 34 v d p) :
    ∃ x0 x1 : Int, v = .agg #[.int .i64 x0, .int .i64 x1] ∧ (Lit.int .i64 x0).wf = true ∧ (Lit.int .i64 x1).wf = true := by
  obtain ⟨cs, rfl, hsz⟩ : ∃ cs : Array Value, v = .agg cs ∧ cs.size = Tryd.prog.cellsOf 34 := by
    have h1 : ∃ cs, v = .agg cs ∧ cs.size = Tryd.prog.cellsOf 34 ∧ Row.okWide Tryd.prog W r b0 34 cs := by simpa [Value.okWide, Tryd.underlying34] using hv
    obtain ⟨cs, e1, e2, _⟩ := h1
    exact ⟨cs, e1, e2⟩
  rw [cells34] at hsz
  obtain ⟨l⟩ := cs
  obtain ⟨c0, c1, rfl⟩ := list2 l hsz
  obtain ⟨fuel, hf⟩ := h
  obtain ⟨ys, m, _, hx, _, hl, hel⟩ := DataW.trod_array Tryd.underlying34 hf
  obtain ⟨y0, y1, rfl⟩ : ∃ y0 y1, ys = [y0, y1] := by
    match ys, hl with
    | [a, b], _ => exact ⟨a, b, rfl⟩
  have hy0 := hel 0 (by omega)
  have hy1 := hel 1 (by omega)
  simp [cells3, Value.cells] at hy0 hy1
  obtain ⟨x0, e0, _, u0⟩ := DataW.trod_int Tryd.underlying3 hy0
  obtain ⟨x1, e1, _, u1⟩ := DataW.trod_int Tryd.underlying3 hy1
  simp at e0 e1
  subst e0 e1
  exact ⟨x0, x1, rfl, u0, u1⟩
end
end Go.Proofs.YtnebmbabfghlaaaDoor
