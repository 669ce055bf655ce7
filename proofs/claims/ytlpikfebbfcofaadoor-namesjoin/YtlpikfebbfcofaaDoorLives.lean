/- The statements' head (two names) answers true; nothing that was there changes. -/
import Derived.Test.YtlpikfebbfcofaaDoorUnder
namespace Go.Proofs.YtlpikfebbfcofaaDoor
open Go.RowKit

theorem lv_split (w : World) (hm : HM w) : Calls Tryd.prog 9 #[.string ⟨#[47, 97, 47, 98, 46, 99]⟩] w fun e w' => ∃ b o c, e = .returned (.tuple #[.slice (some ⟨b, o, none⟩) 2 c, .int .i64 0]) ∧ 2 ≤ c ∧ b < w'.heap.size ∧ w'.cell? ⟨b, o + 1, none⟩ = some (.string ⟨#[98, 46, 99]⟩) ∧ Below w.heap.size w w' := by
  have h := nsplit_any ⟨#[47, 97, 47, 98, 46, 99]⟩ w hm (by decide)
  have e : Sp (ls ⟨#[47, 97, 47, 98, 46, 99]⟩) = some [[97], [98, 46, 99]] := by decide
  rw [e] at h
  refine h.mono ?_
  rintro e w' ⟨a, c, rfl, hc, ht, hb⟩
  obtain ⟨b, o, rfl, hlt, q⟩ := ht.resolve_left (by simp [mks])
  exact ⟨b, o, c, rfl, hc, hlt, q 1 (by decide), hb⟩
theorem lv_parent (w : World) (hm : HM w) : Calls Tryd.prog 14 #[.string ⟨#[47, 97, 47, 98, 46, 99]⟩] w fun e w' => e = .returned (.tuple #[.string ⟨#[47, 97]⟩, .string ⟨#[98, 46, 99]⟩, .int .i64 0]) ∧ Below w.heap.size w w' := by
  have h := parent_any ⟨#[47, 97, 47, 98, 46, 99]⟩ w hm (by decide)
  have e : Sp (ls ⟨#[47, 97, 47, 98, 46, 99]⟩) = some ([[97]] ++ [[98, 46, 99]]) := by decide
  rw [pv_some e] at h
  exact h
theorem lv_right (w : World) : Calls Tryd.prog 11 #[.string ⟨#[120, 45, 49]⟩] w fun e w' => e = .returned (.bool true) ∧ w' = w := by
  have h := right_any ⟨#[120, 45, 49]⟩ w (by decide)
  have e : R ⟨#[120, 45, 49]⟩ = true := by decide
  rw [e] at h
  exact h
theorem lv_under (w : World) (hm : HM w) : Calls Tryd.prog 16 #[.string ⟨#[47]⟩, .string ⟨#[47, 97]⟩] w fun e w' => e = .returned (.bool true) ∧ Below w.heap.size w w' := by
  have h := under_any ⟨#[47]⟩ ⟨#[47, 97]⟩ w hm (by decide) (by decide)
  have e : Un (ls ⟨#[47]⟩) (ls ⟨#[47, 97]⟩) = true := by decide
  rw [e] at h
  exact h

set_option maxHeartbeats 1000000 in
theorem lives_any (w : World) (hm : HM w) :
    Calls Tryd.prog 8 #[] w fun e w' => e = .returned (.bool true) ∧ Below w.heap.size w w' := by
  go_enter Tryd.func8, Tryd.ntmps8
  go_wp2_with fail
  refine (lv_split _ hm).mono ?_
  rintro e w1 ⟨b, o, c, rfl, hc, hlt, hcell, hb1⟩
  have hm1 := hm.below hb1
  go_wp2_with fail
  refine (lv_parent _ hm1).mono ?_
  rintro e w2 ⟨rfl, hb2⟩
  have hm2 := hm1.below hb2
  have hcell2 : w2.cell? ⟨b, o + 1, none⟩ = some (.string ⟨#[98, 46, 99]⟩) := (hb2.cell (p := ⟨b, o + 1, none⟩) hlt).trans hcell
  have hb12 := below_chain hb1 hb2
  clear hcell hb1 hb2
  go_wp2_with fail
  refine (lv_right _).mono ?_
  rintro e w3 ⟨rfl, rfl⟩
  go_wp2_with fail
  refine (lv_under _ hm2).mono ?_
  rintro e w4 ⟨rfl, hb4⟩
  go_wp2
  go_ret
  exact ⟨rfl, below_chain hb12 hb4⟩
end Go.Proofs.YtlpikfebbfcofaaDoor
