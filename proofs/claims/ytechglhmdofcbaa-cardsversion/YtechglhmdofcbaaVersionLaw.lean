/- Proved: for every card, version and size 'CardsVersion' returns true. No condition. -/
import Derived.Test.YtechglhmdofcbaaOpen
namespace Go.Proofs.Ytechglhmdofcbaa.cardsVersion
open Go.ChangeShapes Go.WideShapes Go.ChangeAt Go.RowKit
set_option linter.unusedVariables false

set_option maxHeartbeats 2000000 in
theorem walk_no (k l s v d0 d1 d2 d3 d4 m ver sz : Int) (w : World) (h : ¬ Rt k l s d0 d1 d2 d3 d4 m) :
    Calls Try.prog 7 #[.agg #[.int .i64 k, .int .i64 l, .int .i64 s, .int .u64 v, .int .i64 d0, .int .i64 d1, .int .i64 d2, .int .i64 d3, .int .i64 d4, .int .i64 m], .int .u64 ver, .int .i64 sz] w fun e w' => e = .returned (.bool true) ∧ Below w.heap.size w w' := by
  have H : Hid (¬ Rt k l s d0 d1 d2 d3 d4 m) := h
  clear h
  go_enter Try.func7, Try.ntmps7
  go_wp2_with fail
  obtain ⟨W, hW, HS, HE, HC⟩ := new_card w k l s v d0 d1 d2 d3 d4 m
  rw [hW]
  clear hW
  refine (lives_any _).mono ?_
  rintro e w1 ⟨rfl, bel⟩
  have B1 : Hid (Below W.heap.size W w1) := bel
  obtain ⟨c0, c1, c2, c3, c4, c5, c6, c7, c8, c9⟩ := HC.out w1 bel
  clear bel
  go_wp2_with fail
  refine (write_no k l s v d0 d1 d2 d3 d4 m _ H.out).mono ?_
  rintro e w2 ⟨rfl, B2⟩
  have HB2 : Hid (Below w.heap.size w w2) := HE.out _ (below_next B1.out B2 (Nat.le_refl _))
  clear B2 c0 c1 c2 c3 c4 c5 c6 c7 c8 c9
  go_wp2
  go_ret
  exact ⟨rfl, HB2.out⟩

theorem rem_form (a : Int) : ∃ z : Int, wrap64 ((IntKind.u64.wrap a).tmod 2689) = z ∧ IntKind.i64.wrap ((IntKind.u64.wrap a).tmod 2689) = z ∧ 0 ≤ z ∧ z ≤ 2688 := by
  refine ⟨(a % 18446744073709551616) % 2689, ?_, ?_, by omega, by omega⟩
  · rw [IntKind.wrap_u64, Int.tmod_eq_emod_of_nonneg (by omega)]
    unfold wrap64
    omega
  · rw [IntKind.wrap_u64, Int.tmod_eq_emod_of_nonneg (by omega), IntKind.wrap_i64]
    omega

set_option maxHeartbeats 4000000 in
theorem walk_yes_true (k l s v d0 d1 d2 d3 d4 m ver sz z : Int) (w : World) (h : Rt k l s d0 d1 d2 d3 d4 m) (hz1 : wrap64 ((IntKind.u64.wrap sz).tmod 2689) = z) (hz2 : IntKind.i64.wrap ((IntKind.u64.wrap sz).tmod 2689) = z) (hz : Rt k l z d0 d1 d2 d3 d4 m) (hk : (k != 0) = true) :
    Calls Try.prog 7 #[.agg #[.int .i64 k, .int .i64 l, .int .i64 s, .int .u64 v, .int .i64 d0, .int .i64 d1, .int .i64 d2, .int .i64 d3, .int .i64 d4, .int .i64 m], .int .u64 ver, .int .i64 sz] w fun e w' => e = .returned (.bool true) ∧ Below w.heap.size w w' := by
  have H : Hid (Rt k l s d0 d1 d2 d3 d4 m) := h
  have HZ : Hid (Rt k l z d0 d1 d2 d3 d4 m) := hz
  have HK : Hid ((k != 0) = true) := hk
  clear h hz hk
  go_enter Try.func7, Try.ntmps7
  go_wp2_with fail
  obtain ⟨W, hW, HS, HE, HC⟩ := new_card w k l s v d0 d1 d2 d3 d4 m
  rw [hW]
  clear hW
  refine (lives_any _).mono ?_
  rintro e w1 ⟨rfl, bel⟩
  have B1 : Hid (Below W.heap.size W w1) := bel
  obtain ⟨c0, c1, c2, c3, c4, c5, c6, c7, c8, c9⟩ := HC.out w1 bel
  clear bel
  go_wp2_with fail
  refine (write_yes k l s v d0 d1 d2 d3 d4 m _ H.out).mono ?_
  rintro e w2 ⟨g, rfl, hg1, hg2, hrow, B2⟩
  have S2 : Hid (Src w2 g 0 (wd0 k l s) v (wd2 d0 d1 d2 d3) (wd3 d4 m) 0 0 0 0) := hrow.src hg2
  clear hrow hg1 hg2
  have HB2 : Hid (Below W.heap.size W w2) := below_next B1.out B2 (Nat.le_refl _)
  clear B2 c0 c1 c2 c3 c4 c5 c6 c7 c8 c9
  obtain ⟨c0, c1, c2, c3, c4, c5, c6, c7, c8, c9⟩ := HC.out w2 HB2.out
  go_wp2_with fail
  obtain ⟨X, hX, XS, XE, XC⟩ := new_card w2 k l s ver d0 d1 d2 d3 d4 m
  rw [hX]
  clear hX
  refine (write_yes k l s ver d0 d1 d2 d3 d4 m _ H.out).mono ?_
  rintro e w3 ⟨g', rfl, hg1, hg2, hrow, B3⟩
  have S3 : Hid (Src w3 g' 0 (wd0 k l s) ver (wd2 d0 d1 d2 d3) (wd3 d4 m) 0 0 0 0) := hrow.src hg2
  have HB23 : Hid (Below w2.heap.size w2 w3) := XE.out _ B3
  have HB3 : Hid (Below W.heap.size W w3) := below_next HB2.out HB23.out (Nat.le_refl _)
  clear hrow hg1 hg2 B3 c0 c1 c2 c3 c4 c5 c6 c7 c8 c9
  obtain ⟨c0, c1, c2, c3, c4, c5, c6, c7, c8, c9⟩ := HC.out w3 HB3.out
  go_wp2_with fail
  obtain ⟨Y, hY, YS, YE, YC⟩ := new_card w3 k l z v d0 d1 d2 d3 d4 m
  rw [hY]
  clear hY c0 c1 c2 c3 c4 c5 c6 c7 c8 c9
  refine (write_yes k l z v d0 d1 d2 d3 d4 m _ HZ.out).mono ?_
  rintro e w4 ⟨g'', rfl, hg1, hg2, hrow, B4⟩
  have S4 : Hid (Src w4 g'' 0 (wd0 k l z) v (wd2 d0 d1 d2 d3) (wd3 d4 m) 0 0 0 0) := hrow.src hg2
  clear hrow hg1 hg2
  have HB34 : Hid (Below w3.heap.size w3 w4) := YE.out _ B4
  have HB4 : Hid (Below W.heap.size W w4) := below_next HB3.out HB34.out (Nat.le_refl _)
  have HBF : Hid (Below w.heap.size w w4) := HE.out _ HB4.out
  clear B4
  obtain ⟨c0, c1, c2, c3, c4, c5, c6, c7, c8, c9⟩ := HC.out w4 HB4.out
  have T3 : Hid (Src w4 g' 0 (wd0 k l s) ver (wd2 d0 d1 d2 d3) (wd3 d4 m) 0 0 0 0) := S3.out.later (Nat.le_refl _) HB34.out
  have T2 : Hid (Src w4 g 0 (wd0 k l s) v (wd2 d0 d1 d2 d3) (wd3 d4 m) 0 0 0 0) := S2.out.later (Nat.le_refl _) (below_next HB23.out HB34.out (Nat.le_refl _))
  have x1 := (Src.at T3.out) 1 (by omega)
  have x1' : w4.cell? ⟨g', 1, none⟩ = some (.int .u64 ver) := x1
  have hk := HK.out
  clear x1 c1 c2 c3 c4 c5 c6 c7 c8 c9
  go_wp2
  clear x1' c0 hk
  go_loopw [15] (fun i wr => ∃ j n : Nat, j ≤ 8 ∧ i = .int .i64 j ∧ wr = w4.drewN n) (fun i _ => 8 - (intOf i).toNat)
  case atStart => exact ⟨0, 0, Nat.zero_le _, rfl, rfl⟩
  case round =>
    obtain ⟨j, n, hj, rfl, rfl⟩ := hrel
    by_cases hlt : j < 8
    · have hb : (j : Int) < 8 := by omega
      have e1 := (Src.at T2.out) j hlt
      have e2 := (Src.at T3.out) j hlt
      have e3 := (Src.at S4.out) j hlt
      by_cases h1 : j = 1
      · subst h1
        simp only [eightF] at e1 e2 e3
        have q1 : (v != v) = false := by simp
        go_wp2
        go_quiet (fail)
        go_wp2
        go_roundw
        case rel => exact ⟨2, _, by omega, by go_num, rfl⟩
        case measure => simp [intOf]
      · by_cases h0 : j = 0
        · subst h0
          simp only [eightF] at e1 e2 e3
          have q1 : (wd0 k l s != wd0 k l s) = false := by simp
          go_wp2
          go_quiet (fail)
          go_wp2
          go_roundw
          case rel => exact ⟨1, _, by omega, by go_num, rfl⟩
          case measure => simp [intOf]
        · have f1 : eightF (wd0 k l s) ver (wd2 d0 d1 d2 d3) (wd3 d4 m) 0 0 0 0 j = eightF (wd0 k l s) v (wd2 d0 d1 d2 d3) (wd3 d4 m) 0 0 0 0 j := by
            clear e1 e2 e3
            match j, hlt, h0, h1 with
            | 0, _, h, _ => exact absurd rfl h
            | 1, _, _, h => exact absurd rfl h
            | 2, _, _, _ => rfl
            | 3, _, _, _ => rfl
            | 4, _, _, _ => rfl
            | 5, _, _, _ => rfl
            | 6, _, _, _ => rfl
            | 7, _, _, _ => rfl
          have f2 : eightF (wd0 k l z) v (wd2 d0 d1 d2 d3) (wd3 d4 m) 0 0 0 0 j = eightF (wd0 k l s) v (wd2 d0 d1 d2 d3) (wd3 d4 m) 0 0 0 0 j := by
            clear e1 e2 e3
            match j, hlt, h0, h1 with
            | 0, _, h, _ => exact absurd rfl h
            | 1, _, _, h => exact absurd rfl h
            | 2, _, _, _ => rfl
            | 3, _, _, _ => rfl
            | 4, _, _, _ => rfl
            | 5, _, _, _ => rfl
            | 6, _, _, _ => rfl
            | 7, _, _, _ => rfl
          rw [f1] at e2
          rw [f2] at e3
          clear f1 f2
          obtain ⟨y, hy⟩ : ∃ y, eightF (wd0 k l s) v (wd2 d0 d1 d2 d3) (wd3 d4 m) 0 0 0 0 j = y := ⟨_, rfl⟩
          rw [hy] at e1 e2 e3
          rw [Nat.zero_add] at e1 e2 e3
          clear hy
          have q1 : (y != y) = false := by simp
          have i1 : ((j : Int) != 1) = true := by rw [bne_iff_ne]; omega
          have i0 : ((j : Int) != 0) = true := by rw [bne_iff_ne]; omega
          go_wp2
          go_quiet (fail)
          go_wp2
          go_roundw
          case rel => exact ⟨j + 1, _, by omega, by go_num, rfl⟩
          case measure => simp [intOf]; omega
    · go_wp2
      go_ret
      exact ⟨rfl, below_drewN HBF.out _⟩
set_option maxHeartbeats 4000000 in
theorem walk_yes_false (k l s v d0 d1 d2 d3 d4 m ver sz z : Int) (w : World) (h : Rt k l s d0 d1 d2 d3 d4 m) (hz1 : wrap64 ((IntKind.u64.wrap sz).tmod 2689) = z) (hz2 : IntKind.i64.wrap ((IntKind.u64.wrap sz).tmod 2689) = z) (hz : Rt k l z d0 d1 d2 d3 d4 m) (hk : (k != 0) = false) :
    Calls Try.prog 7 #[.agg #[.int .i64 k, .int .i64 l, .int .i64 s, .int .u64 v, .int .i64 d0, .int .i64 d1, .int .i64 d2, .int .i64 d3, .int .i64 d4, .int .i64 m], .int .u64 ver, .int .i64 sz] w fun e w' => e = .returned (.bool true) ∧ Below w.heap.size w w' := by
  have H : Hid (Rt k l s d0 d1 d2 d3 d4 m) := h
  have HZ : Hid (Rt k l z d0 d1 d2 d3 d4 m) := hz
  have HK : Hid ((k != 0) = false) := hk
  clear h hz hk
  go_enter Try.func7, Try.ntmps7
  go_wp2_with fail
  obtain ⟨W, hW, HS, HE, HC⟩ := new_card w k l s v d0 d1 d2 d3 d4 m
  rw [hW]
  clear hW
  refine (lives_any _).mono ?_
  rintro e w1 ⟨rfl, bel⟩
  have B1 : Hid (Below W.heap.size W w1) := bel
  obtain ⟨c0, c1, c2, c3, c4, c5, c6, c7, c8, c9⟩ := HC.out w1 bel
  clear bel
  go_wp2_with fail
  refine (write_yes k l s v d0 d1 d2 d3 d4 m _ H.out).mono ?_
  rintro e w2 ⟨g, rfl, hg1, hg2, hrow, B2⟩
  have S2 : Hid (Src w2 g 0 (wd0 k l s) v (wd2 d0 d1 d2 d3) (wd3 d4 m) 0 0 0 0) := hrow.src hg2
  clear hrow hg1 hg2
  have HB2 : Hid (Below W.heap.size W w2) := below_next B1.out B2 (Nat.le_refl _)
  clear B2 c0 c1 c2 c3 c4 c5 c6 c7 c8 c9
  obtain ⟨c0, c1, c2, c3, c4, c5, c6, c7, c8, c9⟩ := HC.out w2 HB2.out
  go_wp2_with fail
  obtain ⟨X, hX, XS, XE, XC⟩ := new_card w2 k l s ver d0 d1 d2 d3 d4 m
  rw [hX]
  clear hX
  refine (write_yes k l s ver d0 d1 d2 d3 d4 m _ H.out).mono ?_
  rintro e w3 ⟨g', rfl, hg1, hg2, hrow, B3⟩
  have S3 : Hid (Src w3 g' 0 (wd0 k l s) ver (wd2 d0 d1 d2 d3) (wd3 d4 m) 0 0 0 0) := hrow.src hg2
  have HB23 : Hid (Below w2.heap.size w2 w3) := XE.out _ B3
  have HB3 : Hid (Below W.heap.size W w3) := below_next HB2.out HB23.out (Nat.le_refl _)
  clear hrow hg1 hg2 B3 c0 c1 c2 c3 c4 c5 c6 c7 c8 c9
  obtain ⟨c0, c1, c2, c3, c4, c5, c6, c7, c8, c9⟩ := HC.out w3 HB3.out
  go_wp2_with fail
  obtain ⟨Y, hY, YS, YE, YC⟩ := new_card w3 k l z v d0 d1 d2 d3 d4 m
  rw [hY]
  clear hY c0 c1 c2 c3 c4 c5 c6 c7 c8 c9
  refine (write_yes k l z v d0 d1 d2 d3 d4 m _ HZ.out).mono ?_
  rintro e w4 ⟨g'', rfl, hg1, hg2, hrow, B4⟩
  have S4 : Hid (Src w4 g'' 0 (wd0 k l z) v (wd2 d0 d1 d2 d3) (wd3 d4 m) 0 0 0 0) := hrow.src hg2
  clear hrow hg1 hg2
  have HB34 : Hid (Below w3.heap.size w3 w4) := YE.out _ B4
  have HB4 : Hid (Below W.heap.size W w4) := below_next HB3.out HB34.out (Nat.le_refl _)
  have HBF : Hid (Below w.heap.size w w4) := HE.out _ HB4.out
  clear B4
  obtain ⟨c0, c1, c2, c3, c4, c5, c6, c7, c8, c9⟩ := HC.out w4 HB4.out
  have T3 : Hid (Src w4 g' 0 (wd0 k l s) ver (wd2 d0 d1 d2 d3) (wd3 d4 m) 0 0 0 0) := S3.out.later (Nat.le_refl _) HB34.out
  have T2 : Hid (Src w4 g 0 (wd0 k l s) v (wd2 d0 d1 d2 d3) (wd3 d4 m) 0 0 0 0) := S2.out.later (Nat.le_refl _) (below_next HB23.out HB34.out (Nat.le_refl _))
  have x1 := (Src.at T3.out) 1 (by omega)
  have x1' : w4.cell? ⟨g', 1, none⟩ = some (.int .u64 ver) := x1
  have hk := HK.out
  clear x1 c1 c2 c3 c4 c5 c6 c7 c8 c9
  go_wp2
  clear x1' c0 hk
  go_loopw [15] (fun i wr => ∃ j n : Nat, j ≤ 8 ∧ i = .int .i64 j ∧ wr = w4.drewN n) (fun i _ => 8 - (intOf i).toNat)
  case atStart => exact ⟨0, 0, Nat.zero_le _, rfl, rfl⟩
  case round =>
    obtain ⟨j, n, hj, rfl, rfl⟩ := hrel
    by_cases hlt : j < 8
    · have hb : (j : Int) < 8 := by omega
      have e1 := (Src.at T2.out) j hlt
      have e2 := (Src.at T3.out) j hlt
      have e3 := (Src.at S4.out) j hlt
      by_cases h1 : j = 1
      · subst h1
        simp only [eightF] at e1 e2 e3
        have q1 : (v != v) = false := by simp
        go_wp2
        go_quiet (fail)
        go_wp2
        go_roundw
        case rel => exact ⟨2, _, by omega, by go_num, rfl⟩
        case measure => simp [intOf]
      · by_cases h0 : j = 0
        · subst h0
          simp only [eightF] at e1 e2 e3
          have q1 : (wd0 k l s != wd0 k l s) = false := by simp
          go_wp2
          go_quiet (fail)
          go_wp2
          go_roundw
          case rel => exact ⟨1, _, by omega, by go_num, rfl⟩
          case measure => simp [intOf]
        · have f1 : eightF (wd0 k l s) ver (wd2 d0 d1 d2 d3) (wd3 d4 m) 0 0 0 0 j = eightF (wd0 k l s) v (wd2 d0 d1 d2 d3) (wd3 d4 m) 0 0 0 0 j := by
            clear e1 e2 e3
            match j, hlt, h0, h1 with
            | 0, _, h, _ => exact absurd rfl h
            | 1, _, _, h => exact absurd rfl h
            | 2, _, _, _ => rfl
            | 3, _, _, _ => rfl
            | 4, _, _, _ => rfl
            | 5, _, _, _ => rfl
            | 6, _, _, _ => rfl
            | 7, _, _, _ => rfl
          have f2 : eightF (wd0 k l z) v (wd2 d0 d1 d2 d3) (wd3 d4 m) 0 0 0 0 j = eightF (wd0 k l s) v (wd2 d0 d1 d2 d3) (wd3 d4 m) 0 0 0 0 j := by
            clear e1 e2 e3
            match j, hlt, h0, h1 with
            | 0, _, h, _ => exact absurd rfl h
            | 1, _, _, h => exact absurd rfl h
            | 2, _, _, _ => rfl
            | 3, _, _, _ => rfl
            | 4, _, _, _ => rfl
            | 5, _, _, _ => rfl
            | 6, _, _, _ => rfl
            | 7, _, _, _ => rfl
          rw [f1] at e2
          rw [f2] at e3
          clear f1 f2
          obtain ⟨y, hy⟩ : ∃ y, eightF (wd0 k l s) v (wd2 d0 d1 d2 d3) (wd3 d4 m) 0 0 0 0 j = y := ⟨_, rfl⟩
          rw [hy] at e1 e2 e3
          rw [Nat.zero_add] at e1 e2 e3
          clear hy
          have q1 : (y != y) = false := by simp
          have i1 : ((j : Int) != 1) = true := by rw [bne_iff_ne]; omega
          have i0 : ((j : Int) != 0) = true := by rw [bne_iff_ne]; omega
          go_wp2
          go_quiet (fail)
          go_wp2
          go_roundw
          case rel => exact ⟨j + 1, _, by omega, by go_num, rfl⟩
          case measure => simp [intOf]; omega
    · go_wp2
      go_ret
      exact ⟨rfl, below_drewN HBF.out _⟩
set_option maxHeartbeats 4000000 in
theorem walk_zero_false (k l s v d0 d1 d2 d3 d4 m ver sz z : Int) (w : World) (h : Rt k l s d0 d1 d2 d3 d4 m) (hz1 : wrap64 ((IntKind.u64.wrap sz).tmod 2689) = z) (hz2 : IntKind.i64.wrap ((IntKind.u64.wrap sz).tmod 2689) = z) (hz : ¬ Rt k l z d0 d1 d2 d3 d4 m) (hk : (k != 0) = false) :
    Calls Try.prog 7 #[.agg #[.int .i64 k, .int .i64 l, .int .i64 s, .int .u64 v, .int .i64 d0, .int .i64 d1, .int .i64 d2, .int .i64 d3, .int .i64 d4, .int .i64 m], .int .u64 ver, .int .i64 sz] w fun e w' => e = .returned (.bool true) ∧ Below w.heap.size w w' := by
  have H : Hid (Rt k l s d0 d1 d2 d3 d4 m) := h
  have HZ : Hid (¬ Rt k l z d0 d1 d2 d3 d4 m) := hz
  have HK : Hid ((k != 0) = false) := hk
  clear h hz hk
  go_enter Try.func7, Try.ntmps7
  go_wp2_with fail
  obtain ⟨W, hW, HS, HE, HC⟩ := new_card w k l s v d0 d1 d2 d3 d4 m
  rw [hW]
  clear hW
  refine (lives_any _).mono ?_
  rintro e w1 ⟨rfl, bel⟩
  have B1 : Hid (Below W.heap.size W w1) := bel
  obtain ⟨c0, c1, c2, c3, c4, c5, c6, c7, c8, c9⟩ := HC.out w1 bel
  clear bel
  go_wp2_with fail
  refine (write_yes k l s v d0 d1 d2 d3 d4 m _ H.out).mono ?_
  rintro e w2 ⟨g, rfl, hg1, hg2, hrow, B2⟩
  have S2 : Hid (Src w2 g 0 (wd0 k l s) v (wd2 d0 d1 d2 d3) (wd3 d4 m) 0 0 0 0) := hrow.src hg2
  clear hrow hg1 hg2
  have HB2 : Hid (Below W.heap.size W w2) := below_next B1.out B2 (Nat.le_refl _)
  clear B2 c0 c1 c2 c3 c4 c5 c6 c7 c8 c9
  obtain ⟨c0, c1, c2, c3, c4, c5, c6, c7, c8, c9⟩ := HC.out w2 HB2.out
  go_wp2_with fail
  obtain ⟨X, hX, XS, XE, XC⟩ := new_card w2 k l s ver d0 d1 d2 d3 d4 m
  rw [hX]
  clear hX
  refine (write_yes k l s ver d0 d1 d2 d3 d4 m _ H.out).mono ?_
  rintro e w3 ⟨g', rfl, hg1, hg2, hrow, B3⟩
  have S3 : Hid (Src w3 g' 0 (wd0 k l s) ver (wd2 d0 d1 d2 d3) (wd3 d4 m) 0 0 0 0) := hrow.src hg2
  have HB23 : Hid (Below w2.heap.size w2 w3) := XE.out _ B3
  have HB3 : Hid (Below W.heap.size W w3) := below_next HB2.out HB23.out (Nat.le_refl _)
  clear hrow hg1 hg2 B3 c0 c1 c2 c3 c4 c5 c6 c7 c8 c9
  obtain ⟨c0, c1, c2, c3, c4, c5, c6, c7, c8, c9⟩ := HC.out w3 HB3.out
  go_wp2_with fail
  obtain ⟨Y, hY, YS, YE, YC⟩ := new_card w3 k l z v d0 d1 d2 d3 d4 m
  rw [hY]
  clear hY c0 c1 c2 c3 c4 c5 c6 c7 c8 c9
  refine (write_no k l z v d0 d1 d2 d3 d4 m _ HZ.out).mono ?_
  rintro e w4 ⟨rfl, B4⟩
  have HB34 : Hid (Below w3.heap.size w3 w4) := YE.out _ B4
  have HB4 : Hid (Below W.heap.size W w4) := below_next HB3.out HB34.out (Nat.le_refl _)
  have HBF : Hid (Below w.heap.size w w4) := HE.out _ HB4.out
  clear B4
  obtain ⟨c0, c1, c2, c3, c4, c5, c6, c7, c8, c9⟩ := HC.out w4 HB4.out
  have T3 : Hid (Src w4 g' 0 (wd0 k l s) ver (wd2 d0 d1 d2 d3) (wd3 d4 m) 0 0 0 0) := S3.out.later (Nat.le_refl _) HB34.out
  have T2 : Hid (Src w4 g 0 (wd0 k l s) v (wd2 d0 d1 d2 d3) (wd3 d4 m) 0 0 0 0) := S2.out.later (Nat.le_refl _) (below_next HB23.out HB34.out (Nat.le_refl _))
  have x1 := (Src.at T3.out) 1 (by omega)
  have x1' : w4.cell? ⟨g', 1, none⟩ = some (.int .u64 ver) := x1
  have hk := HK.out
  clear x1 c1 c2 c3 c4 c5 c6 c7 c8 c9
  go_wp2
  clear x1' c0 hk
  go_loopw [15] (fun i wr => ∃ j n : Nat, j ≤ 8 ∧ i = .int .i64 j ∧ wr = w4.drewN n) (fun i _ => 8 - (intOf i).toNat)
  case atStart => exact ⟨0, 0, Nat.zero_le _, rfl, rfl⟩
  case round =>
    obtain ⟨j, n, hj, rfl, rfl⟩ := hrel
    by_cases hlt : j < 8
    · have hb : (j : Int) < 8 := by omega
      have e1 := (Src.at T2.out) j hlt
      have e2 := (Src.at T3.out) j hlt
      by_cases h1 : j = 1
      · subst h1
        simp only [eightF] at e1 e2
        go_wp2
        go_quiet (fail)
        go_wp2
        go_roundw
        case rel => exact ⟨2, _, by omega, by go_num, rfl⟩
        case measure => simp [intOf]
      · have f1 : eightF (wd0 k l s) ver (wd2 d0 d1 d2 d3) (wd3 d4 m) 0 0 0 0 j = eightF (wd0 k l s) v (wd2 d0 d1 d2 d3) (wd3 d4 m) 0 0 0 0 j := by
          clear e1 e2
          match j, hlt, h1 with
          | 0, _, _ => rfl
          | 1, _, h => exact absurd rfl h
          | 2, _, _ => rfl
          | 3, _, _ => rfl
          | 4, _, _ => rfl
          | 5, _, _ => rfl
          | 6, _, _ => rfl
          | 7, _, _ => rfl
        rw [f1] at e2
        clear f1
        obtain ⟨y, hy⟩ : ∃ y, eightF (wd0 k l s) v (wd2 d0 d1 d2 d3) (wd3 d4 m) 0 0 0 0 j = y := ⟨_, rfl⟩
        rw [hy] at e1 e2
        rw [Nat.zero_add] at e1 e2
        clear hy
        have q1 : (y != y) = false := by simp
        have i1 : ((j : Int) != 1) = true := by rw [bne_iff_ne]; omega
        go_wp2
        go_quiet (fail)
        go_wp2
        go_roundw
        case rel => exact ⟨j + 1, _, by omega, by go_num, rfl⟩
        case measure => simp [intOf]; omega
    · go_wp2
      go_ret
      exact ⟨rfl, below_drewN HBF.out _⟩
theorem walk (k l s v d0 d1 d2 d3 d4 m ver sz : Int) (w : World) (_ : In64 k) (_ : In64 l) (_ : In64 s) (_ : 0 ≤ v ∧ v ≤ 18446744073709551615) (_ : In64 d0) (_ : In64 d1) (_ : In64 d2) (_ : In64 d3) (_ : In64 d4) (_ : In64 m) (_ : 0 ≤ ver ∧ ver ≤ 18446744073709551615) (_ : In64 sz) :
    Calls Try.prog 7 #[.agg #[.int .i64 k, .int .i64 l, .int .i64 s, .int .u64 v, .int .i64 d0, .int .i64 d1, .int .i64 d2, .int .i64 d3, .int .i64 d4, .int .i64 m], .int .u64 ver, .int .i64 sz] w fun e w' => e = .returned (.bool true) ∧ Below w.heap.size w w' := by
  obtain ⟨z, hz1, hz2, hz3, hz4⟩ := rem_form sz
  by_cases h : Rt k l s d0 d1 d2 d3 d4 m
  · by_cases hz : Rt k l z d0 d1 d2 d3 d4 m
    · by_cases hk : k = 0
      · exact walk_yes_false k l s v d0 d1 d2 d3 d4 m ver sz z w h hz1 hz2 hz (by rw [bne_eq_false_iff_eq]; exact hk)
      · exact walk_yes_true k l s v d0 d1 d2 d3 d4 m ver sz z w h hz1 hz2 hz (by rw [bne_iff_ne]; exact hk)
    · have hk : k = 0 := by
        rcases h with h | h
        · exact h.1
        · exact absurd (.inr ⟨h.1, h.2.1, ⟨hz3, hz4⟩, h.2.2.2⟩) hz
      exact walk_zero_false k l s v d0 d1 d2 d3 d4 m ver sz z w h hz1 hz2 hz (by rw [bne_eq_false_iff_eq]; exact hk)
  · exact walk_no k l s v d0 d1 d2 d3 d4 m ver sz w h

set_option maxRecDepth 100000 in
theorem lifted (os : Os) (started : os.Started) (H : Type) (enc : TypeId × Value → H) :
    ReturnsInHanded {} Try.checked os 7 .any (Rows.cardsVersionSpec.pre6 enc Try.prog Try.f7 Rows.cardsVersionRow.domain false) (Rows.cardsVersionSpec.post enc Try.prog Try.f7 false true false false) := by
  refine returnsInHanded_of_change (C := Try.checked) own started (by kernel_rfl) Try.func7
    (ChangeSpec.witness6 (enc := enc) (C := Try.checked) false ⟨#[], #[.agg #[.int .i64 0, .int .i64 0, .int .i64 0, .int .u64 0, .int .i64 0, .int .i64 0, .int .i64 0, .int .i64 0, .int .i64 0, .int .i64 0], .int .u64 0, .int .i64 0], []⟩ 8 (by kernel_rfl) (by kernel_rfl) (by kernel_rfl) (by kernel_rfl)) ?_
  intro W base args ds gs before hval0 hW hcnd _
  have hval : ∀ (j : Nat) t v, Try.f7.params[j]? = some t → args[j]? = some v → Value.okWide Try.prog W .any base t v := hval0
  have hW' := hW
  obtain ⟨p, q, hA0, hV, rfl, hfz, hnd⟩ := hW
  have hA : DataW.TrodAll enc Try.prog W 0 (fun _ => true) true Try.f7.params.toList args.toList ds p := hA0
  rw [Try.params7] at hA hval
  obtain ⟨v0, vs0, d0, ds0, p0, q0, hargs, rfl, rfl, h0, r0⟩ := trodAll_cons hA
  obtain ⟨v1, vs1, d1, ds1, p1, q1, rfl, rfl, rfl, h1, r1⟩ := trodAll_cons r0
  obtain ⟨v2, vs2, d2, ds2, p2, q2, rfl, rfl, rfl, h2, r2⟩ := trodAll_cons r1
  obtain ⟨rfl, rfl, rfl⟩ := trodAll_nil r2
  obtain rfl : args = #[v0, v1, v2] := by cases args; simp_all
  obtain ⟨rfl, rfl⟩ := trodVars_none hV
  have k0 := h0
  have lt0 : ∀ x ∈ p0, x.block < W.heap.size := by obtain ⟨m, hm⟩ := k0; exact DataW.trod_lt m _ _ _ hm
  obtain ⟨k_0, l_0, s_0, ver_0, d0_0, d1_0, d2_0, d3_0, d4_0, m_0, rfl, bk_0, bl_0, bs_0, bver_0, bd0_0, bd1_0, bd2_0, bd3_0, bd4_0, bm_0⟩ := open_card (hval 0 25 v0 rfl rfl) h0
  obtain ⟨a1, rfl, rfl, rfl, w1⟩ := open_int Try.underlying22 (hval 1 22 v1 rfl rfl) h1
  obtain ⟨a2, rfl, rfl, rfl, w2⟩ := open_int Try.underlying3 (hval 2 3 v2 rfl rfl) h2
  clear hA0 hval0
  refine (walk k_0 l_0 s_0 ver_0 d0_0 d1_0 d2_0 d3_0 d4_0 m_0 a1 a2 W bk_0 bl_0 bs_0 bver_0 bd0_0 bd1_0 bd2_0 bd3_0 bd4_0 bm_0 (bounds_u64 w1) (bounds_i64 w2)).mono fun e W' ⟨he, bel⟩ => ?_
  subst he
  exact ⟨_, rfl, _, _, _, [], _, [], hW', trodAll_mk1 (shut_bool Try.underlying4 _), (trodAll_cons_mk (Below.trod laidOut (by kernel_rfl) (of_decide_eq_true (by kernel_rfl)) k0 bel lt0) (trodAll_cons_mk (shut_int Try.underlying22 w1) (trodAll_cons_mk (shut_int Try.underlying3 w2) trodAll_mk0))), rfl, bel.frame _, fun h => by cases h⟩

theorem over : Rows.cardsVersionRow.holds Try.pinned (OpenSpec.ofChange Rows.cardsVersionSpec) :=
  OpenClaim.holds_of_wide 7 Try.f7 rfl rfl rfl rfl rfl rfl rfl ⟨rfl, rfl, rfl, rfl, rfl⟩ rfl rfl rfl rfl rfl (by kernel_rfl) Try.func7 (by kernel_rfl)
    (of_decide_eq_true (by kernel_rfl)) (by unfold Func.isWrapper; first | (rw [if_pos (by decide +kernel)]; kernel_rfl) | (rw [if_neg (by decide +kernel)]; exact ⟨rfl, rfl⟩))
    (fun os started H enc _ => lifted os started H enc)

theorem proved : Rows.CardsVersionSaid := over
#print axioms proved
end Go.Proofs.Ytechglhmdofcbaa.cardsVersion
