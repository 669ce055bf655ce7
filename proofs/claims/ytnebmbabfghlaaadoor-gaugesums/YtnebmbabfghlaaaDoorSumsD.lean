/- prescale: what it lays into a scaler. -/
import Derived.Test.YtnebmbabfghlaaaDoorSumsC
namespace Go.Proofs.YtnebmbabfghlaaaDoor
open Go.RowKit
/-- The table of powers of ten: 696 pairs. -/
def PTab (w : World) (TH TL : Nat → Int) : Prop := ∀ i : Nat, i < 696 → w.cell? ⟨3, i * 2, none⟩ = some (.int .u64 (TH i)) ∧ w.cell? ⟨3, i * 2 + 1, none⟩ = some (.int .u64 (TL i))

set_option maxRecDepth 20000 in
set_option maxHeartbeats 1000000 in
theorem prescale_any (TH TL : Nat → Int) (w : World) (b j : Nat) (v0 v1 v2 : Value) (e lp : Int) (hT : PTab w TH TL) (hj : j < 696) (hb : 3 < b) (he : -3000 ≤ e ∧ e ≤ 3000) (hlp : -3000 ≤ lp ∧ lp ≤ 3000)
    (c0 : w.cell? ⟨b, 0, none⟩ = some v0) (c1 : w.cell? ⟨b, 1, none⟩ = some v1) (c2 : w.cell? ⟨b, 2, none⟩ = some v2) (f0 : w.frozen? ⟨b, 0, none⟩ = false) (f1 : w.frozen? ⟨b, 1, none⟩ = false) (f2 : w.frozen? ⟨b, 2, none⟩ = false) :
    Calls Tryd.prog 81 #[.pointer (some ⟨b, 0, none⟩), .int .i64 e, .int .i64 ((j : Int) - 348), .int .i64 lp] w fun en w' => en = .returned (.tuple #[]) ∧ Scal w' b (TH j) (TL j) (-(e + lp + 3)) ∧ Below b w w' := by
  obtain ⟨t0, t1⟩ := hT j hj
  clear hT
  have hji : (j : Int) < 696 := by omega
  have hb3 : ¬ (b = 3) := by omega
  have hb4 : ¬ (3 = b) := by omega
  have ejj : (j : Int) - 348 - -348 = (j : Int) := by omega
  go_enter Tryd.func81, Tryd.ntmps81
  go_wp2
  go_end0
  have d01 : (⟨b, 0, none⟩ : Addr) ≠ ⟨b, 1, none⟩ := by simp
  have d02 : (⟨b, 0, none⟩ : Addr) ≠ ⟨b, 2, none⟩ := by simp
  have d12 : (⟨b, 1, none⟩ : Addr) ≠ ⟨b, 2, none⟩ := by simp
  refine ⟨rfl, ⟨?_, ?_, ?_⟩, ?_⟩
  · rw [World.cell?_setCell_other _ _ _ _ d02.symm, World.cell?_setCell_other _ _ _ _ d01.symm]; exact World.cell?_setCell_same _ _ _ c0
  · rw [World.cell?_setCell_other _ _ _ _ d12.symm]
    exact World.cell?_setCell_same _ _ _ (u := v1) (by rw [World.cell?_setCell_other _ _ _ _ d01]; exact c1)
  · exact World.cell?_setCell_same _ _ _ (u := v2) (by rw [World.cell?_setCell_other _ _ _ _ d12, World.cell?_setCell_other _ _ _ _ d02]; exact c2)
  · exact Below.setCell (p := ⟨b, 2, none⟩) (Below.setCell (p := ⟨b, 1, none⟩) (Below.setCell (p := ⟨b, 0, none⟩) (Below.refl b w) (Nat.le_refl b) _) (Nat.le_refl b) _) (Nat.le_refl b) _
end Go.Proofs.YtnebmbabfghlaaaDoor
