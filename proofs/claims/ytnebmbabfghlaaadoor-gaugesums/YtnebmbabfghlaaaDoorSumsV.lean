/- The tables that printing reads, out of what is laid when the call begins. -/
import Derived.Test.YtnebmbabfghlaaaDoorSumsT
namespace Go.Proofs.YtnebmbabfghlaaaDoor
open Go.RowKit Go.Lib

theorem g3 : Tryd.prog.globalNamed "internal/strconv.pow10Tab" = some 3 := by kernel_rfl
theorem gt2 : (Tryd.prog.globals[2]?).map (·.type) = some 99 := by kernel_rfl
theorem gt3 : (Tryd.prog.globals[3]?).map (·.type) = some 109 := by kernel_rfl
theorem cells43 : Tryd.prog.cellsOf 43 = 1 := by kernel_rfl
theorem cells99 : Tryd.prog.cellsOf 99 = 20 := by kernel_rfl
theorem cells108 : Tryd.prog.cellsOf 108 = 2 := by kernel_rfl

theorem pow_of_reads {W : World} (h : VarReads Tryd.prog W "internal/strconv.uint64pow10" (Lib.tabData .u64 Lib.pow10Tab)) : Lib.TabIs Tryd.prog W "internal/strconv.uint64pow10" .u64 Lib.pow10Tab := by
  obtain ⟨g, t, cs, fuel, p, hg, hty, hvar, hd⟩ := h
  obtain rfl := Option.some.inj (g2.symm.trans hg)
  obtain rfl := Option.some.inj (gt2.symm.trans hty)
  unfold Lib.TabIs
  rw [hvar, ← cells_of_tab Tryd.underlying99 Tryd.underlying43 cells43 cells99 hd]

theorem pair_of_reads {W : World} {d : DataW Unit} (h : VarReads Tryd.prog W "internal/strconv.pow10Tab" d) (i : Nat) (hi : i < 696) : ∃ a b, W.cell? ⟨3, i * 2, none⟩ = some (.int .u64 a) ∧ W.cell? ⟨3, i * 2 + 1, none⟩ = some (.int .u64 b) ∧ U64 a ∧ U64 b := by
  obtain ⟨g, t, cs, fuel, p, hg, hty, hvar, hd⟩ := h
  obtain rfl := Option.some.inj (g3.symm.trans hg)
  obtain rfl := Option.some.inj (gt3.symm.trans hty)
  obtain ⟨ys, m, _, _, _, hl, hel⟩ := DataW.trod_array Tryd.underlying109 hd
  have hy := hel i hi
  rw [cells108, List.getElem?_eq_getElem (by omega)] at hy
  obtain ⟨zs, n, _, _, _, hzl, hall⟩ := DataW.trod_struct Tryd.underlying108 hy
  have h0 := hall 0 _ rfl
  have h1 := hall 1 _ rfl
  have hz2 : zs.length = 2 := hzl
  rw [List.getElem?_eq_getElem (by omega)] at h0 h1
  obtain ⟨a, e0, _, wa⟩ := DataW.trod_int Tryd.underlying43 h0
  obtain ⟨b, e1, _, wb⟩ := DataW.trod_int Tryd.underlying43 h1
  have c0 := congrArg (·[0]?) e0
  have c1 := congrArg (·[0]?) e1
  simp only [List.getElem?_take, List.getElem?_drop] at c0 c1
  simp at c0 c1
  have ba := bounds_u64 wa
  have bb := bounds_u64 wb
  refine ⟨a, b, ?_, ?_, ⟨ba.1, by omega⟩, ⟨bb.1, by omega⟩⟩
  · rw [World.var?_cell hg hvar (i * 2), ← Array.getElem?_toList]
    simpa using c0.2
  · rw [World.var?_cell hg hvar (i * 2 + 1), ← Array.getElem?_toList]
    simpa using c1.2

theorem tabs_of_reads {W : World} {d : DataW Unit} (h1 : VarReads Tryd.prog W "internal/strconv.uint64pow10" (Lib.tabData .u64 Lib.pow10Tab)) (h2 : VarReads Tryd.prog W "internal/strconv.pow10Tab" d) :
    ∃ TH TL : Nat → Int, (∀ i, U64 (TH i) ∧ U64 (TL i)) ∧ Tabs W TH TL := by
  have hp : ∀ i : Nat, ∃ ab : Int × Int, U64 ab.1 ∧ U64 ab.2 ∧ (i < 696 → W.cell? ⟨3, i * 2, none⟩ = some (.int .u64 ab.1) ∧ W.cell? ⟨3, i * 2 + 1, none⟩ = some (.int .u64 ab.2)) := fun i => by
    by_cases hi : i < 696
    · obtain ⟨a, b, h3, h4, h5, h6⟩ := pair_of_reads h2 i hi
      exact ⟨(a, b), h5, h6, fun _ => ⟨h3, h4⟩⟩
    · exact ⟨(0, 0), ⟨by decide, by decide⟩, ⟨by decide, by decide⟩, fun h => absurd h hi⟩
  refine ⟨fun i => (hp i).choose.1, fun i => (hp i).choose.2, fun i => ⟨(hp i).choose_spec.1, (hp i).choose_spec.2.1⟩, fun i hi => (hp i).choose_spec.2.2 hi, pow_of_reads h1, ?_⟩
  obtain ⟨a, b, h3, _⟩ := pair_of_reads h2 0 (by decide)
  exact World.block_lt_of_cell? W ⟨3, 0 * 2, none⟩ h3
end Go.Proofs.YtnebmbabfghlaaaDoor
