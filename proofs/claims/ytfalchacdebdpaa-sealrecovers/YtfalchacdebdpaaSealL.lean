/- Contract of the laws' image: the words of a memory of the plan, all 0 but the head. -/
import Derived.Test.YtfalchacdebdpaaRow
import Derived.Test.YtfalchacdebdpaaLoad
namespace Go.Proofs.Ytfalchacdebdpaa
open Go.RowKit Go.Maps Go.ChangeMaps

theorem over_head : over (fun _ => 0) headN 0 8 = headN := by
  funext j
  unfold over
  by_cases h : j < 8
  · rw [if_pos ⟨by omega, by omega⟩]; rfl
  · rw [if_neg (by omega)]
    unfold headN
    rw [if_neg (by omega), if_neg (by omega)]

set_option maxHeartbeats 1000000 in
set_option maxRecDepth 100000 in
theorem image13_any (w : World) :
    Calls Try.prog 13 #[] w fun e w' => ∃ G, e = .returned (.slice (some ⟨G, 0, none⟩) 2824 2824) ∧ RowIs w' G headN ∧ w.heap.size ≤ G ∧ Below w.heap.size w w' := by
  obtain ⟨i0, hi, hz0, hz1, hz2⟩ := info_parts Try.info22
  obtain ⟨L, hL⟩ : ∃ L : Nat, L = 2824 := ⟨_, rfl⟩
  have HL : Hid (L = 2824) := hL
  have hL1 : (100 : Int) ≤ (L : Int) := by omega
  have hL2 : (L : Int) ≤ 100000 := by omega
  clear hL
  have hho := head_own
  go_enter Try.func13, Try.ntmps13
  go_wp2_with (at_make; refine wpList_make_full _ rfl _ _ 37 rfl w.heap.size 22 i0 (.int .u64 0) 1 Try.underlying37 hi hz0 hz1 _ _ _ _ L rfl rfl ?l1 ?l2 ?b2 ?b3 (Nat.le_refl _) ?_)
  case l1 => have := HL.out; omega
  case l2 => have := HL.out; omega
  case b2 => rw [hz2]; omega
  case b3 => unfold maxLen; omega
  intro w2 hown hgrow
  have R2 : Hid (RowIs w2 w.heap.size (fun _ => 0)) := by
    have e := made_row hown
    rw [HL.out] at e
    exact e
  have B2 : Below w.heap.size w w2 := (Below.refl _ _).grown hgrow (Nat.le_refl _) (fun k h => by cases h)
  clear hown hgrow
  obtain ⟨G, hG⟩ : ∃ G, w.heap.size = G := ⟨_, rfl⟩
  have HG : Hid (w.heap.size = G) := hG
  rw [hG] at R2
  go_wp2_with fail
  refine (hho _).mono ?_
  rintro e w4 ⟨rfl, hcells, hb4, hsz4⟩
  have R4 : RowIs w4 G _ := R2.out.later (Nat.le_refl _) hb4
  have B4 : Below w.heap.size w w4 := B2.trans (hb4.mono B2.size)
  obtain ⟨w5, hrun5, R5, B5⟩ := run_copy w4 G 0 _ headN (some ⟨w2.heap.size, 0, none⟩) 8 8 L 8 R4 (.inr ⟨_, 0, rfl, hsz4, fun i hi => by rw [Nat.zero_add]; exact hcells.out i hi⟩) (by have := HL.out; omega) (by rw [HL.out]; rfl) w.heap.size w B4 (by omega)
  clear hcells R4
  rw [hG]
  clear hG
  go_wp2
  go_ret
  have hl := HL.out
  subst hl
  exact ⟨G, rfl, by have := R5.out; rw [over_head] at this; exact this, by rw [HG.out]; exact Nat.le_refl _, B5⟩

end Go.Proofs.Ytfalchacdebdpaa
