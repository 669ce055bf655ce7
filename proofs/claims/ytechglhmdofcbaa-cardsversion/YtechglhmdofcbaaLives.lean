/- The statements' head (a fresh file's card, written and read) answers true; nothing that was there changes. -/
import Derived.Test.YtechglhmdofcbaaFresh
import Derived.Test.YtechglhmdofcbaaRefRead
namespace Go.Proofs.Ytechglhmdofcbaa
open Go.RowKit

theorem rt_fresh (k : Int) (h : k = 1 ∨ k = 2 ∨ k = 3) : Rt k 1 0 (-1) (-1) (-1) (-1) (-1) (-1) := .inr ⟨h, by omega, by omega, by unfold Bk; omega⟩
theorem rt_none : Rt 0 0 0 (-1) (-1) (-1) (-1) (-1) (-1) := .inl (by unfold No; omega)
theorem write_lives (w : World) : Calls Try.prog 9 #[.agg #[.int .i64 1, .int .i64 1, .int .i64 0, .int .u64 9, .int .i64 (-1), .int .i64 (-1), .int .i64 (-1), .int .i64 (-1), .int .i64 (-1), .int .i64 (-1)]] w fun e w' => ∃ g, e = .returned (.tuple #[.slice (some ⟨g, 0, none⟩) 8 8, .int .i64 0]) ∧ w.heap.size ≤ g ∧ g < w'.heap.size ∧ Row8 w' g 257 9 0 0 0 0 0 0 ∧ Below w.heap.size w w' := by
  refine (write_yes 1 1 0 9 (-1) (-1) (-1) (-1) (-1) (-1) w (rt_fresh 1 (.inl rfl))).mono ?_
  rintro e w' ⟨g, rfl, h1, h2, h3, h4⟩
  exact ⟨g, rfl, h1, h2, h3, h4⟩
theorem src_new (w : World) (t : TypeId) (a0 a1 a2 a3 a4 a5 a6 a7 : Int) : Src (w.alloc (.cells #[.int .u64 a0, .int .u64 a1, .int .u64 a2, .int .u64 a3, .int .u64 a4, .int .u64 a5, .int .u64 a6, .int .u64 a7] t)) w.heap.size 0 a0 a1 a2 a3 a4 a5 a6 a7 := by
  unfold Src
  simp [go_sem]
theorem says_lives : Says 257 0 0 1 1 0 (-1) (-1) (-1) (-1) (-1) (-1) := by unfold Says; omega

set_option maxHeartbeats 2000000 in
theorem lives_any (w : World) : Calls Try.prog 8 #[] w fun e w' => e = .returned (.bool true) ∧ Below w.heap.size w w' := by
  have he := eq_card 1 1 0 9 (-1) (-1) (-1) (-1) (-1) (-1) 1 1 0 9 (-1) (-1) (-1) (-1) (-1) (-1)
  go_enter Try.func8, Try.ntmps8
  go_wp2_with fail
  refine (fresh_yes 1 9 _ (.inl rfl)).mono ?_
  rintro e w1 ⟨rfl, hb1⟩
  go_wp2_with fail
  obtain ⟨W, hW, HS, HE, HC⟩ := new_card w1 1 1 0 9 (-1) (-1) (-1) (-1) (-1) (-1)
  rw [hW]
  clear hW
  obtain ⟨G, hG⟩ : ∃ G, w1.heap.size = G := ⟨_, rfl⟩
  refine (write_lives _).mono ?_
  rintro e w2 ⟨g, rfl, hg1, hg2, hrow, hb2⟩
  go_wp2_with fail
  have HR2 : Hid (Src w2 g 0 257 9 0 0 0 0 0 0) := hrow.src hg2
  have HB2 : Hid (Below W.heap.size W w2) := hb2
  have HG : Hid (w1.heap.size = G) := hG
  have HB1 : Hid (Below w.heap.size w w1) := hb1
  clear hrow hb2 hg1 hg2 hb1 hG
  refine (read_yes w2.heap.size 0 8 257 9 0 0 0 0 0 0 1 1 0 (-1) (-1) (-1) (-1) (-1) (-1) _ (src_new w2 22 _ _ _ _ _ _ _ _) (by omega) (by omega) (by omega) says_lives (rt_fresh 1 (.inl rfl)) ⟨rfl, rfl, rfl, rfl, rfl, rfl, rfl⟩).mono ?_
  rintro e w3 ⟨rfl, hb3⟩
  have B23 : Hid (Below w2.heap.size w2 w3) := below_box hb3
  have B03 : Hid (Below W.heap.size W w3) := below_next HB2.out B23.out (Nat.le_refl _)
  have BF : Hid (Below w.heap.size w w3) := below_next HB1.out (HE.out _ B03.out) (Nat.le_refl _)
  obtain ⟨c0, c1, c2, c3, c4, c5, c6, c7, c8, c9⟩ := HC.out _ B03.out
  obtain ⟨hg3, q0, q1, q2, -⟩ := HR2.out.later (Nat.le_refl _) B23.out
  have hG3 : G < w3.heap.size := by have := B03.out.size; have := HS.out; have := HG.out; omega
  rw [Hid.out HG] at c0 c1 c2 c3 c4 c5 c6 c7 c8 c9
  clear hb3
  go_wp2
  go_ret
  exact ⟨rfl, BF.out.alloc BF.out.size _⟩
end Go.Proofs.Ytechglhmdofcbaa
