/- Proved: for every card 'CardsWrite' returns true and its argument reads afterwards as before. No condition. -/
import Derived.Test.YtechglhmdofcbaaOpen
namespace Go.Proofs.Ytechglhmdofcbaa.cardsWrite
open Go.ChangeShapes Go.WideShapes Go.ChangeAt Go.RowKit
set_option linter.unusedVariables false

theorem self8 (a0 a1 a2 a3 a4 a5 a6 a7 : Int) : (a0 = a0 ∧ a1 = a1 ∧ a2 = a2 ∧ a3 = a3 ∧ a4 = a4 ∧ a5 = a5 ∧ a6 = a6 ∧ a7 = a7) ↔ true = true := ⟨fun _ => rfl, fun _ => ⟨rfl, rfl, rfl, rfl, rfl, rfl, rfl, rfl⟩⟩
set_option maxHeartbeats 2000000 in
theorem walk_yes (k l s v d0 d1 d2 d3 d4 m : Int) (w : World) (h : Rt k l s d0 d1 d2 d3 d4 m) :
    Calls Try.prog 3 #[.agg #[.int .i64 k, .int .i64 l, .int .i64 s, .int .u64 v, .int .i64 d0, .int .i64 d1, .int .i64 d2, .int .i64 d3, .int .i64 d4, .int .i64 m]] w fun e w' => e = .returned (.bool true) ∧ Below w.heap.size w w' := by
  have H : Hid (Rt k l s d0 d1 d2 d3 d4 m) := h
  clear h
  go_enter Try.func3, Try.ntmps3
  go_wp2_with fail
  obtain ⟨W, hW, HS, HE, HC⟩ := new_card w k l s v d0 d1 d2 d3 d4 m
  rw [hW]
  clear hW
  refine (lives_any _).mono ?_
  rintro e w1 ⟨rfl, bel⟩
  have B1 : Hid (Below W.heap.size W w1) := bel
  obtain ⟨c0, c1, c2, c3, c4, c5, c6, c7, c8, c9⟩ := HC.out w1 bel
  clear bel
  go_wp2_with fail
  refine (write_yes k l s v d0 d1 d2 d3 d4 m _ H.out).mono ?_
  rintro e w2 ⟨g, rfl, hg1, hg2, hrow, B2⟩
  have S2 : Hid (Src w2 g 0 (wd0 k l s) v (wd2 d0 d1 d2 d3) (wd3 d4 m) 0 0 0 0) := hrow.src hg2
  clear hrow hg1 hg2
  have HB2 : Hid (Below W.heap.size W w2) := below_next B1.out B2 (Nat.le_refl _)
  clear B2 c0 c1 c2 c3 c4 c5 c6 c7 c8 c9
  obtain ⟨c0, c1, c2, c3, c4, c5, c6, c7, c8, c9⟩ := HC.out w2 HB2.out
  go_wp2_with fail
  refine (refWrite_yes k l s v d0 d1 d2 d3 d4 m _ H.out).mono ?_
  rintro e w3 ⟨g', rfl, hg1, hg2, hrow, B3⟩
  have S3 : Hid (Src w3 g' 0 (wd0 k l s) v (wd2 d0 d1 d2 d3) (wd3 d4 m) 0 0 0 0) := hrow.src hg2
  have S2' : Hid (Src w3 g 0 (wd0 k l s) v (wd2 d0 d1 d2 d3) (wd3 d4 m) 0 0 0 0) := S2.out.later (Nat.le_refl _) B3
  clear hrow hg1 hg2
  have HB3 : Hid (Below W.heap.size W w3) := below_next HB2.out B3 (Nat.le_refl _)
  clear B3 c0 c1 c2 c3 c4 c5 c6 c7 c8 c9
  have HSM : Hid (∀ w', Below w3.heap.size w3 w' → Calls Try.prog 11 #[.slice (some ⟨g, 0, none⟩) 8 8, .slice (some ⟨g', 0, none⟩) 8 8] w' fun e w2 => e = .returned (.bool true) ∧ Below w'.heap.size w' w2) := fun w' hb =>
    same_src _ _ _ _ _ _ _ _ _ _ _ _ _ _ _ _ _ _ _ _ _ _ true _ (self8 _ _ _ _ _ _ _ _) (S2'.out.later (Nat.le_refl _) hb) (S3.out.later (Nat.le_refl _) hb)
  have HCC : Hid (∀ v', Below w3.heap.size w3 v' → v'.cell? ⟨w.heap.size, 0, none⟩ = some (.int .i64 k) ∧ v'.cell? ⟨w.heap.size, 1, none⟩ = some (.int .i64 l) ∧ v'.cell? ⟨w.heap.size, 2, none⟩ = some (.int .i64 s) ∧ v'.cell? ⟨w.heap.size, 3, none⟩ = some (.int .u64 v) ∧ v'.cell? ⟨w.heap.size, 4, none⟩ = some (.int .i64 d0) ∧ v'.cell? ⟨w.heap.size, 5, none⟩ = some (.int .i64 d1) ∧ v'.cell? ⟨w.heap.size, 6, none⟩ = some (.int .i64 d2) ∧ v'.cell? ⟨w.heap.size, 7, none⟩ = some (.int .i64 d3) ∧ v'.cell? ⟨w.heap.size, 8, none⟩ = some (.int .i64 d4) ∧ v'.cell? ⟨w.heap.size, 9, none⟩ = some (.int .i64 m)) := fun v' hv => HC.out v' (below_next HB3.out hv (Nat.le_refl _))
  have bel : Below w3.heap.size w3 w3 := Below.refl _ _
  obtain ⟨c0, c1, c2, c3, c4, c5, c6, c7, c8, c9⟩ := HCC.out w3 bel
  go_wp2_with fail
  go_region_held3 (fun v' => v'.cell? ⟨w.heap.size, 0, none⟩ = some (.int .i64 k) ∧ v'.cell? ⟨w.heap.size, 1, none⟩ = some (.int .i64 l) ∧ v'.cell? ⟨w.heap.size, 2, none⟩ = some (.int .i64 s) ∧ v'.cell? ⟨w.heap.size, 3, none⟩ = some (.int .u64 v) ∧ v'.cell? ⟨w.heap.size, 4, none⟩ = some (.int .i64 d0) ∧ v'.cell? ⟨w.heap.size, 5, none⟩ = some (.int .i64 d1) ∧ v'.cell? ⟨w.heap.size, 6, none⟩ = some (.int .i64 d2) ∧ v'.cell? ⟨w.heap.size, 7, none⟩ = some (.int .i64 d3) ∧ v'.cell? ⟨w.heap.size, 8, none⟩ = some (.int .i64 d4) ∧ v'.cell? ⟨w.heap.size, 9, none⟩ = some (.int .i64 m)) (first | exact HCC.out _ bel | exact HCC.out _ bel.drew)
    (first
      | (go_at_call 11; refine Calls.mono (Hid.out HSM _ bel.drew) ?_; rintro e v1 ⟨rfl, hb⟩; have bel := bel.drew.trans (hb.mono bel.size); clear hb)
      | (go_at_call 12; refine Calls.mono (right_yes k l s v d0 d1 d2 d3 d4 m _ H.out) ?_; rintro e v2 ⟨rfl, hb⟩; have bel := bel.trans (hb.mono bel.size); clear hb)
      | (go_at_call 13; refine Calls.mono (refRight_yes k l s v d0 d1 d2 d3 d4 m _ H.out) ?_; rintro e v3 ⟨rfl, hb⟩; have bel := bel.trans (hb.mono bel.size); clear hb))
  all_goals
    have BF : Hid (Below w.heap.size w _) := HE.out _ (below_next HB3.out bel (Nat.le_refl _))
    go_wp2
    go_ret
    exact ⟨rfl, BF.out⟩
set_option maxHeartbeats 2000000 in
theorem walk_no (k l s v d0 d1 d2 d3 d4 m : Int) (w : World) (h : ¬ Rt k l s d0 d1 d2 d3 d4 m) :
    Calls Try.prog 3 #[.agg #[.int .i64 k, .int .i64 l, .int .i64 s, .int .u64 v, .int .i64 d0, .int .i64 d1, .int .i64 d2, .int .i64 d3, .int .i64 d4, .int .i64 m]] w fun e w' => e = .returned (.bool true) ∧ Below w.heap.size w w' := by
  have H : Hid (¬ Rt k l s d0 d1 d2 d3 d4 m) := h
  clear h
  go_enter Try.func3, Try.ntmps3
  go_wp2_with fail
  obtain ⟨W, hW, HS, HE, HC⟩ := new_card w k l s v d0 d1 d2 d3 d4 m
  rw [hW]
  clear hW
  refine (lives_any _).mono ?_
  rintro e w1 ⟨rfl, bel⟩
  have B1 : Hid (Below W.heap.size W w1) := bel
  obtain ⟨c0, c1, c2, c3, c4, c5, c6, c7, c8, c9⟩ := HC.out w1 bel
  clear bel
  go_wp2_with fail
  refine (write_no k l s v d0 d1 d2 d3 d4 m _ H.out).mono ?_
  rintro e w2 ⟨rfl, B2⟩
  have HB2 : Hid (Below W.heap.size W w2) := below_next B1.out B2 (Nat.le_refl _)
  clear B2 c0 c1 c2 c3 c4 c5 c6 c7 c8 c9
  obtain ⟨c0, c1, c2, c3, c4, c5, c6, c7, c8, c9⟩ := HC.out w2 HB2.out
  go_wp2_with fail
  refine (refWrite_no k l s v d0 d1 d2 d3 d4 m _ H.out).mono ?_
  rintro e w3 ⟨rfl, B3⟩
  have HB3 : Hid (Below W.heap.size W w3) := below_next HB2.out B3 (Nat.le_refl _)
  clear B3 c0 c1 c2 c3 c4 c5 c6 c7 c8 c9
  have HSM : Hid (∀ w', Below w3.heap.size w3 w' → Calls Try.prog 11 #[.slice none 0 0, .slice none 0 0] w' fun e w2 => e = .returned (.bool true) ∧ Below w'.heap.size w' w2) := fun w' hb => same_zero _ _ _ _ _
  have HCC : Hid (∀ v', Below w3.heap.size w3 v' → v'.cell? ⟨w.heap.size, 0, none⟩ = some (.int .i64 k) ∧ v'.cell? ⟨w.heap.size, 1, none⟩ = some (.int .i64 l) ∧ v'.cell? ⟨w.heap.size, 2, none⟩ = some (.int .i64 s) ∧ v'.cell? ⟨w.heap.size, 3, none⟩ = some (.int .u64 v) ∧ v'.cell? ⟨w.heap.size, 4, none⟩ = some (.int .i64 d0) ∧ v'.cell? ⟨w.heap.size, 5, none⟩ = some (.int .i64 d1) ∧ v'.cell? ⟨w.heap.size, 6, none⟩ = some (.int .i64 d2) ∧ v'.cell? ⟨w.heap.size, 7, none⟩ = some (.int .i64 d3) ∧ v'.cell? ⟨w.heap.size, 8, none⟩ = some (.int .i64 d4) ∧ v'.cell? ⟨w.heap.size, 9, none⟩ = some (.int .i64 m)) := fun v' hv => HC.out v' (below_next HB3.out hv (Nat.le_refl _))
  have bel : Below w3.heap.size w3 w3 := Below.refl _ _
  obtain ⟨c0, c1, c2, c3, c4, c5, c6, c7, c8, c9⟩ := HCC.out w3 bel
  go_wp2_with fail
  go_region_held3 (fun v' => v'.cell? ⟨w.heap.size, 0, none⟩ = some (.int .i64 k) ∧ v'.cell? ⟨w.heap.size, 1, none⟩ = some (.int .i64 l) ∧ v'.cell? ⟨w.heap.size, 2, none⟩ = some (.int .i64 s) ∧ v'.cell? ⟨w.heap.size, 3, none⟩ = some (.int .u64 v) ∧ v'.cell? ⟨w.heap.size, 4, none⟩ = some (.int .i64 d0) ∧ v'.cell? ⟨w.heap.size, 5, none⟩ = some (.int .i64 d1) ∧ v'.cell? ⟨w.heap.size, 6, none⟩ = some (.int .i64 d2) ∧ v'.cell? ⟨w.heap.size, 7, none⟩ = some (.int .i64 d3) ∧ v'.cell? ⟨w.heap.size, 8, none⟩ = some (.int .i64 d4) ∧ v'.cell? ⟨w.heap.size, 9, none⟩ = some (.int .i64 m)) (first | exact HCC.out _ bel | exact HCC.out _ bel.drew)
    (first
      | (go_at_call 11; refine Calls.mono (Hid.out HSM _ bel.drew) ?_; rintro e v1 ⟨rfl, hb⟩; have bel := bel.drew.trans (hb.mono bel.size); clear hb)
      | (go_at_call 12; refine Calls.mono (right_no k l s v d0 d1 d2 d3 d4 m _ H.out) ?_; rintro e v2 ⟨rfl, hb⟩; have bel := bel.trans (hb.mono bel.size); clear hb)
      | (go_at_call 13; refine Calls.mono (refRight_no k l s v d0 d1 d2 d3 d4 m _ H.out) ?_; rintro e v3 ⟨rfl, hb⟩; have bel := bel.trans (hb.mono bel.size); clear hb))
  all_goals
    have BF : Hid (Below w.heap.size w _) := HE.out _ (below_next HB3.out bel (Nat.le_refl _))
    go_wp2
    go_ret
    exact ⟨rfl, BF.out⟩

theorem walk (k l s v d0 d1 d2 d3 d4 m : Int) (w : World) (_ : In64 k) (_ : In64 l) (_ : In64 s) (_ : 0 ≤ v ∧ v ≤ 18446744073709551615) (_ : In64 d0) (_ : In64 d1) (_ : In64 d2) (_ : In64 d3) (_ : In64 d4) (_ : In64 m) :
    Calls Try.prog 3 #[.agg #[.int .i64 k, .int .i64 l, .int .i64 s, .int .u64 v, .int .i64 d0, .int .i64 d1, .int .i64 d2, .int .i64 d3, .int .i64 d4, .int .i64 m]] w fun e w' => e = .returned (.bool true) ∧ Below w.heap.size w w' := by
  by_cases h : Rt k l s d0 d1 d2 d3 d4 m
  · exact walk_yes k l s v d0 d1 d2 d3 d4 m w h
  · exact walk_no k l s v d0 d1 d2 d3 d4 m w h

set_option maxRecDepth 100000 in
theorem lifted (os : Os) (started : os.Started) (H : Type) (enc : TypeId × Value → H) :
    ReturnsInHanded {} Try.checked os 3 .any (Rows.cardsWriteSpec.pre6 enc Try.prog Try.f3 Rows.cardsWriteRow.domain false) (Rows.cardsWriteSpec.post enc Try.prog Try.f3 false true false false) := by
  refine returnsInHanded_of_change (C := Try.checked) own started (by kernel_rfl) Try.func3
    (ChangeSpec.witness6 (enc := enc) (C := Try.checked) false ⟨#[], #[.agg #[.int .i64 0, .int .i64 0, .int .i64 0, .int .u64 0, .int .i64 0, .int .i64 0, .int .i64 0, .int .i64 0, .int .i64 0, .int .i64 0]], []⟩ 8 (by kernel_rfl) (by kernel_rfl) (by kernel_rfl) (by kernel_rfl)) ?_
  intro W base args ds gs before hval0 hW hcnd _
  have hval : ∀ (j : Nat) t v, Try.f3.params[j]? = some t → args[j]? = some v → Value.okWide Try.prog W .any base t v := hval0
  have hW' := hW
  obtain ⟨p, q, hA0, hV, rfl, hfz, hnd⟩ := hW
  have hA : DataW.TrodAll enc Try.prog W 0 (fun _ => true) true Try.f3.params.toList args.toList ds p := hA0
  rw [Try.params3] at hA hval
  obtain ⟨v0, vs0, d0, ds0, p0, q0, hargs, rfl, rfl, h0, r0⟩ := trodAll_cons hA
  obtain ⟨rfl, rfl, rfl⟩ := trodAll_nil r0
  obtain rfl : args = #[v0] := by cases args; simp_all
  obtain ⟨rfl, rfl⟩ := trodVars_none hV
  have k0 := h0
  have lt0 : ∀ x ∈ p0, x.block < W.heap.size := by obtain ⟨m, hm⟩ := k0; exact DataW.trod_lt m _ _ _ hm
  obtain ⟨k_0, l_0, s_0, ver_0, d0_0, d1_0, d2_0, d3_0, d4_0, m_0, rfl, bk_0, bl_0, bs_0, bver_0, bd0_0, bd1_0, bd2_0, bd3_0, bd4_0, bm_0⟩ := open_card (hval 0 25 v0 rfl rfl) h0
  clear hA0 hval0
  refine (walk k_0 l_0 s_0 ver_0 d0_0 d1_0 d2_0 d3_0 d4_0 m_0 W bk_0 bl_0 bs_0 bver_0 bd0_0 bd1_0 bd2_0 bd3_0 bd4_0 bm_0).mono fun e W' ⟨he, bel⟩ => ?_
  subst he
  exact ⟨_, rfl, _, _, _, [], _, [], hW', trodAll_mk1 (shut_bool Try.underlying4 _), (trodAll_cons_mk (Below.trod laidOut (by kernel_rfl) (of_decide_eq_true (by kernel_rfl)) k0 bel lt0) trodAll_mk0), rfl, bel.frame _, fun h => by cases h⟩

theorem over : Rows.cardsWriteRow.holds Try.pinned (OpenSpec.ofChange Rows.cardsWriteSpec) :=
  OpenClaim.holds_of_wide 3 Try.f3 rfl rfl rfl rfl rfl rfl rfl ⟨rfl, rfl, rfl, rfl, rfl⟩ rfl rfl rfl rfl rfl (by kernel_rfl) Try.func3 (by kernel_rfl)
    (of_decide_eq_true (by kernel_rfl)) (by unfold Func.isWrapper; first | (rw [if_pos (by decide +kernel)]; kernel_rfl) | (rw [if_neg (by decide +kernel)]; exact ⟨rfl, rfl⟩))
    (fun os started H enc _ => lifted os started H enc)

theorem proved : Rows.CardsWriteSaid := over
#print axioms proved
end Go.Proofs.Ytechglhmdofcbaa.cardsWrite
