/- Proved: for every kind and version 'CardsFresh' returns true. No condition. -/
import Derived.Test.YtechglhmdofcbaaOpen
namespace Go.Proofs.Ytechglhmdofcbaa.cardsFresh
open Go.ChangeShapes Go.WideShapes Go.ChangeAt Go.RowKit
set_option linter.unusedVariables false

set_option maxHeartbeats 20000000 in
theorem walk_no (k v : Int) (w : World) (h : ¬ (k = 1 ∨ k = 2 ∨ k = 3)) :
    Calls Try.prog 6 #[.int .i64 k, .int .u64 v] w fun e w' => e = .returned (.bool true) ∧ Below w.heap.size w w' := by
  have HK : Hid (¬ (k = 1 ∨ k = 2 ∨ k = 3)) := h
  have he : ∀ w, (Op.equalIn 10000 25 (.agg #[.int .i64 0, .int .i64 0, .int .i64 0, .int .u64 0, .int .i64 0, .int .i64 0, .int .i64 0, .int .i64 0, .int .i64 0, .int .i64 0]) (.agg #[.int .i64 0, .int .i64 0, .int .i64 0, .int .u64 0, .int .i64 0, .int .i64 0, .int .i64 0, .int .i64 0, .int .i64 0, .int .i64 0])).run Try.prog w = .ok true w := fun w => by
    rw [eq_card]; simp
  have hn : ∀ w, (Op.equalIn 10000 25 (.agg #[.int .i64 0, .int .i64 0, .int .i64 0, .int .u64 v, .int .i64 (-1), .int .i64 (-1), .int .i64 (-1), .int .i64 (-1), .int .i64 (-1), .int .i64 (-1)]) (.agg #[.int .i64 0, .int .i64 0, .int .i64 0, .int .u64 v, .int .i64 (-1), .int .i64 (-1), .int .i64 (-1), .int .i64 (-1), .int .i64 (-1), .int .i64 (-1)])).run Try.prog w = .ok true w := fun w => by
    rw [eq_card]; simp
  clear h
  go_enter Try.func6, Try.ntmps6
  go_wp2_with fail
  refine (lives_any _).mono ?_
  rintro e w1 ⟨rfl, B1⟩
  have HB1 : Hid (Below w.heap.size w w1) := B1
  clear B1
  go_wp2_with fail
  refine (fresh_no k v _ HK.out).mono ?_
  rintro e w2 ⟨rfl, B2⟩
  have HB2 : Hid (Below w.heap.size w w2) := below_next HB1.out B2 (Nat.le_refl _)
  clear B2
  go_wp2_with fail
  obtain ⟨X, hX, XS, XE, XC⟩ := new_card w2 0 0 0 0 0 0 0 0 0 0
  rw [hX]
  clear hX
  refine (refFresh_no k v _ HK.out).mono ?_
  rintro e w3 ⟨rfl, B3⟩
  have HB3 : Hid (Below X.heap.size X w3) := B3
  clear B3
  go_wp2_with fail
  obtain ⟨Y, hY, YS, YE, YC⟩ := new_card w3 0 0 0 0 0 0 0 0 0 0
  rw [hY]
  clear hY
  refine (none_any v _).mono ?_
  rintro e w4 ⟨rfl, B4⟩
  have HB4 : Hid (Below Y.heap.size Y w4) := B4
  clear B4
  go_wp2_with fail
  obtain ⟨N, hN, NS, NE, NC⟩ := new_card w4 0 0 0 v (-1) (-1) (-1) (-1) (-1) (-1)
  rw [hN]
  clear hN
  have BXN : Hid (∀ v', Below N.heap.size N v' → Below X.heap.size X v') := fun v' hv => below_next HB3.out (YE.out _ (below_next HB4.out (NE.out _ hv) (Nat.le_refl _))) (Nat.le_refl _)
  have BYN : Hid (∀ v', Below N.heap.size N v' → Below Y.heap.size Y v') := fun v' hv => below_next HB4.out (NE.out _ hv) (Nat.le_refl _)
  have bel : Below N.heap.size N N := Below.refl _ _
  have HR : Hid (∀ w', Calls Try.prog 12 #[.agg #[.int .i64 0, .int .i64 0, .int .i64 0, .int .u64 v, .int .i64 (-1), .int .i64 (-1), .int .i64 (-1), .int .i64 (-1), .int .i64 (-1), .int .i64 (-1)]] w' fun e w2 => e = .returned (.bool true) ∧ Below w'.heap.size w' w2) := fun w' => right_yes _ _ _ v _ _ _ _ _ _ _ rt_none
  obtain ⟨x0, x1, x2, x3, x4, x5, x6, x7, x8, x9⟩ := XC.out N (BXN.out _ bel)
  obtain ⟨y0, y1, y2, y3, y4, y5, y6, y7, y8, y9⟩ := YC.out N (BYN.out _ bel)
  obtain ⟨n0, n1, n2, n3, n4, n5, n6, n7, n8, n9⟩ := NC.out N bel
  go_region_with (first
      | (go_at_call 19; refine Calls.mono (refNone_any v _) ?_; rintro e v1 ⟨rfl, hb⟩; have bel := bel.drew.trans (hb.mono bel.size); clear hb; clear x0 x1 x2 x3 x4 x5 x6 x7 x8 x9 y0 y1 y2 y3 y4 y5 y6 y7 y8 y9 n0 n1 n2 n3 n4 n5 n6 n7 n8 n9; obtain ⟨n0, n1, n2, n3, n4, n5, n6, n7, n8, n9⟩ := NC.out _ bel)
      | (go_at_call 12; refine Calls.mono (HR.out _) ?_; rintro e v2 ⟨rfl, hb⟩; have bel := bel.trans (hb.mono bel.size); clear hb n0 n1 n2 n3 n4 n5 n6 n7 n8 n9))
  all_goals
    have BF : Hid (Below w.heap.size w _) := below_next HB2.out (XE.out _ (BXN.out _ bel)) (Nat.le_refl _)
    go_wp2
    go_ret
    exact ⟨rfl, BF.out⟩
set_option maxHeartbeats 2000000 in
theorem walk_yes (k v : Int) (w : World) (h : k = 1 ∨ k = 2 ∨ k = 3) :
    Calls Try.prog 6 #[.int .i64 k, .int .u64 v] w fun e w' => e = .returned (.bool true) ∧ Below w.heap.size w w' := by
  have HK : Hid (k = 1 ∨ k = 2 ∨ k = 3) := h
  have he : ∀ w, (Op.equalIn 10000 25 (.agg #[.int .i64 k, .int .i64 1, .int .i64 0, .int .u64 v, .int .i64 (-1), .int .i64 (-1), .int .i64 (-1), .int .i64 (-1), .int .i64 (-1), .int .i64 (-1)]) (.agg #[.int .i64 k, .int .i64 1, .int .i64 0, .int .u64 v, .int .i64 (-1), .int .i64 (-1), .int .i64 (-1), .int .i64 (-1), .int .i64 (-1), .int .i64 (-1)])).run Try.prog w = .ok true w := fun w => by
    rw [eq_card]; simp
  have hn : ∀ w, (Op.equalIn 10000 25 (.agg #[.int .i64 0, .int .i64 0, .int .i64 0, .int .u64 v, .int .i64 (-1), .int .i64 (-1), .int .i64 (-1), .int .i64 (-1), .int .i64 (-1), .int .i64 (-1)]) (.agg #[.int .i64 0, .int .i64 0, .int .i64 0, .int .u64 v, .int .i64 (-1), .int .i64 (-1), .int .i64 (-1), .int .i64 (-1), .int .i64 (-1), .int .i64 (-1)])).run Try.prog w = .ok true w := fun w => by
    rw [eq_card]; simp
  clear h
  go_enter Try.func6, Try.ntmps6
  go_wp2_with fail
  refine (lives_any _).mono ?_
  rintro e w1 ⟨rfl, B1⟩
  have HB1 : Hid (Below w.heap.size w w1) := B1
  clear B1
  go_wp2_with fail
  refine (fresh_yes k v _ HK.out).mono ?_
  rintro e w2 ⟨rfl, B2⟩
  have HB2 : Hid (Below w.heap.size w w2) := below_next HB1.out B2 (Nat.le_refl _)
  clear B2
  go_wp2_with fail
  obtain ⟨X, hX, XS, XE, XC⟩ := new_card w2 k 1 0 v (-1) (-1) (-1) (-1) (-1) (-1)
  rw [hX]
  clear hX
  refine (refFresh_yes k v _ HK.out).mono ?_
  rintro e w3 ⟨rfl, B3⟩
  have HB3 : Hid (Below X.heap.size X w3) := B3
  clear B3
  go_wp2_with fail
  obtain ⟨Y, hY, YS, YE, YC⟩ := new_card w3 k 1 0 v (-1) (-1) (-1) (-1) (-1) (-1)
  rw [hY]
  clear hY
  refine (none_any v _).mono ?_
  rintro e w4 ⟨rfl, B4⟩
  have HB4 : Hid (Below Y.heap.size Y w4) := B4
  clear B4
  go_wp2_with fail
  obtain ⟨N, hN, NS, NE, NC⟩ := new_card w4 0 0 0 v (-1) (-1) (-1) (-1) (-1) (-1)
  rw [hN]
  clear hN
  have BXN : Hid (∀ v', Below N.heap.size N v' → Below X.heap.size X v') := fun v' hv => below_next HB3.out (YE.out _ (below_next HB4.out (NE.out _ hv) (Nat.le_refl _))) (Nat.le_refl _)
  have BYN : Hid (∀ v', Below N.heap.size N v' → Below Y.heap.size Y v') := fun v' hv => below_next HB4.out (NE.out _ hv) (Nat.le_refl _)
  have bel : Below N.heap.size N N := Below.refl _ _
  have HF : Hid (∀ w', Calls Try.prog 12 #[.agg #[.int .i64 k, .int .i64 1, .int .i64 0, .int .u64 v, .int .i64 (-1), .int .i64 (-1), .int .i64 (-1), .int .i64 (-1), .int .i64 (-1), .int .i64 (-1)]] w' fun e w2 => e = .returned (.bool true) ∧ Below w'.heap.size w' w2) := fun w' => right_yes _ _ _ v _ _ _ _ _ _ _ (rt_fresh k HK.out)
  have HR : Hid (∀ w', Calls Try.prog 12 #[.agg #[.int .i64 0, .int .i64 0, .int .i64 0, .int .u64 v, .int .i64 (-1), .int .i64 (-1), .int .i64 (-1), .int .i64 (-1), .int .i64 (-1), .int .i64 (-1)]] w' fun e w2 => e = .returned (.bool true) ∧ Below w'.heap.size w' w2) := fun w' => right_yes _ _ _ v _ _ _ _ _ _ _ rt_none
  have HCC : Hid (∀ v', Below N.heap.size N v' → (v'.cell? ⟨w2.heap.size, 0, none⟩ = some (.int .i64 k) ∧ v'.cell? ⟨w2.heap.size, 1, none⟩ = some (.int .i64 1) ∧ v'.cell? ⟨w2.heap.size, 2, none⟩ = some (.int .i64 0) ∧ v'.cell? ⟨w2.heap.size, 3, none⟩ = some (.int .u64 v) ∧ v'.cell? ⟨w2.heap.size, 4, none⟩ = some (.int .i64 (-1)) ∧ v'.cell? ⟨w2.heap.size, 5, none⟩ = some (.int .i64 (-1)) ∧ v'.cell? ⟨w2.heap.size, 6, none⟩ = some (.int .i64 (-1)) ∧ v'.cell? ⟨w2.heap.size, 7, none⟩ = some (.int .i64 (-1)) ∧ v'.cell? ⟨w2.heap.size, 8, none⟩ = some (.int .i64 (-1)) ∧ v'.cell? ⟨w2.heap.size, 9, none⟩ = some (.int .i64 (-1))) ∧ (v'.cell? ⟨w3.heap.size, 0, none⟩ = some (.int .i64 k) ∧ v'.cell? ⟨w3.heap.size, 1, none⟩ = some (.int .i64 1) ∧ v'.cell? ⟨w3.heap.size, 2, none⟩ = some (.int .i64 0) ∧ v'.cell? ⟨w3.heap.size, 3, none⟩ = some (.int .u64 v) ∧ v'.cell? ⟨w3.heap.size, 4, none⟩ = some (.int .i64 (-1)) ∧ v'.cell? ⟨w3.heap.size, 5, none⟩ = some (.int .i64 (-1)) ∧ v'.cell? ⟨w3.heap.size, 6, none⟩ = some (.int .i64 (-1)) ∧ v'.cell? ⟨w3.heap.size, 7, none⟩ = some (.int .i64 (-1)) ∧ v'.cell? ⟨w3.heap.size, 8, none⟩ = some (.int .i64 (-1)) ∧ v'.cell? ⟨w3.heap.size, 9, none⟩ = some (.int .i64 (-1))) ∧ (v'.cell? ⟨w4.heap.size, 0, none⟩ = some (.int .i64 0) ∧ v'.cell? ⟨w4.heap.size, 1, none⟩ = some (.int .i64 0) ∧ v'.cell? ⟨w4.heap.size, 2, none⟩ = some (.int .i64 0) ∧ v'.cell? ⟨w4.heap.size, 3, none⟩ = some (.int .u64 v) ∧ v'.cell? ⟨w4.heap.size, 4, none⟩ = some (.int .i64 (-1)) ∧ v'.cell? ⟨w4.heap.size, 5, none⟩ = some (.int .i64 (-1)) ∧ v'.cell? ⟨w4.heap.size, 6, none⟩ = some (.int .i64 (-1)) ∧ v'.cell? ⟨w4.heap.size, 7, none⟩ = some (.int .i64 (-1)) ∧ v'.cell? ⟨w4.heap.size, 8, none⟩ = some (.int .i64 (-1)) ∧ v'.cell? ⟨w4.heap.size, 9, none⟩ = some (.int .i64 (-1)))) := fun v' hv => ⟨XC.out _ (BXN.out _ hv), YC.out _ (BYN.out _ hv), NC.out _ hv⟩
  obtain ⟨⟨x0, x1, x2, x3, x4, x5, x6, x7, x8, x9⟩, ⟨y0, y1, y2, y3, y4, y5, y6, y7, y8, y9⟩, ⟨n0, n1, n2, n3, n4, n5, n6, n7, n8, n9⟩⟩ := HCC.out N bel
  go_region_held3 (fun v' => (v'.cell? ⟨w2.heap.size, 0, none⟩ = some (.int .i64 k) ∧ v'.cell? ⟨w2.heap.size, 1, none⟩ = some (.int .i64 1) ∧ v'.cell? ⟨w2.heap.size, 2, none⟩ = some (.int .i64 0) ∧ v'.cell? ⟨w2.heap.size, 3, none⟩ = some (.int .u64 v) ∧ v'.cell? ⟨w2.heap.size, 4, none⟩ = some (.int .i64 (-1)) ∧ v'.cell? ⟨w2.heap.size, 5, none⟩ = some (.int .i64 (-1)) ∧ v'.cell? ⟨w2.heap.size, 6, none⟩ = some (.int .i64 (-1)) ∧ v'.cell? ⟨w2.heap.size, 7, none⟩ = some (.int .i64 (-1)) ∧ v'.cell? ⟨w2.heap.size, 8, none⟩ = some (.int .i64 (-1)) ∧ v'.cell? ⟨w2.heap.size, 9, none⟩ = some (.int .i64 (-1))) ∧ (v'.cell? ⟨w3.heap.size, 0, none⟩ = some (.int .i64 k) ∧ v'.cell? ⟨w3.heap.size, 1, none⟩ = some (.int .i64 1) ∧ v'.cell? ⟨w3.heap.size, 2, none⟩ = some (.int .i64 0) ∧ v'.cell? ⟨w3.heap.size, 3, none⟩ = some (.int .u64 v) ∧ v'.cell? ⟨w3.heap.size, 4, none⟩ = some (.int .i64 (-1)) ∧ v'.cell? ⟨w3.heap.size, 5, none⟩ = some (.int .i64 (-1)) ∧ v'.cell? ⟨w3.heap.size, 6, none⟩ = some (.int .i64 (-1)) ∧ v'.cell? ⟨w3.heap.size, 7, none⟩ = some (.int .i64 (-1)) ∧ v'.cell? ⟨w3.heap.size, 8, none⟩ = some (.int .i64 (-1)) ∧ v'.cell? ⟨w3.heap.size, 9, none⟩ = some (.int .i64 (-1))) ∧ (v'.cell? ⟨w4.heap.size, 0, none⟩ = some (.int .i64 0) ∧ v'.cell? ⟨w4.heap.size, 1, none⟩ = some (.int .i64 0) ∧ v'.cell? ⟨w4.heap.size, 2, none⟩ = some (.int .i64 0) ∧ v'.cell? ⟨w4.heap.size, 3, none⟩ = some (.int .u64 v) ∧ v'.cell? ⟨w4.heap.size, 4, none⟩ = some (.int .i64 (-1)) ∧ v'.cell? ⟨w4.heap.size, 5, none⟩ = some (.int .i64 (-1)) ∧ v'.cell? ⟨w4.heap.size, 6, none⟩ = some (.int .i64 (-1)) ∧ v'.cell? ⟨w4.heap.size, 7, none⟩ = some (.int .i64 (-1)) ∧ v'.cell? ⟨w4.heap.size, 8, none⟩ = some (.int .i64 (-1)) ∧ v'.cell? ⟨w4.heap.size, 9, none⟩ = some (.int .i64 (-1)))) (first | exact HCC.out _ bel | exact HCC.out _ bel.drew)
    (first
      | (go_at_call 19; refine Calls.mono (refNone_any v _) ?_; rintro e v1 ⟨rfl, hb⟩; have bel := bel.drew.trans (hb.mono bel.size); clear hb)
      | (go_at_call 12; refine Calls.mono (right_yes _ _ _ _ _ _ _ _ _ _ _ ?_) ?_; (first | exact rt_none | exact rt_fresh _ HK.out); rintro e v2 ⟨rfl, hb⟩; have bel := bel.trans (hb.mono bel.size); clear hb))
  all_goals
    have BF : Hid (Below w.heap.size w _) := below_next HB2.out (XE.out _ (BXN.out _ bel)) (Nat.le_refl _)
    go_wp2
    go_ret
    exact ⟨rfl, BF.out⟩
theorem walk (k v : Int) (w : World) (_ : In64 k) (_ : 0 ≤ v ∧ v ≤ 18446744073709551615) :
    Calls Try.prog 6 #[.int .i64 k, .int .u64 v] w fun e w' => e = .returned (.bool true) ∧ Below w.heap.size w w' := by
  by_cases h : k = 1 ∨ k = 2 ∨ k = 3
  · exact walk_yes k v w h
  · exact walk_no k v w h

set_option maxRecDepth 100000 in
theorem lifted (os : Os) (started : os.Started) (H : Type) (enc : TypeId × Value → H) :
    ReturnsInHanded {} Try.checked os 6 .any (Rows.cardsFreshSpec.pre6 enc Try.prog Try.f6 Rows.cardsFreshRow.domain false) (Rows.cardsFreshSpec.post enc Try.prog Try.f6 false true false false) := by
  refine returnsInHanded_of_change (C := Try.checked) own started (by kernel_rfl) Try.func6
    (ChangeSpec.witness6 (enc := enc) (C := Try.checked) false ⟨#[], #[.int .i64 0, .int .u64 0], []⟩ 8 (by kernel_rfl) (by kernel_rfl) (by kernel_rfl) (by kernel_rfl)) ?_
  intro W base args ds gs before hval0 hW hcnd _
  have hval : ∀ (j : Nat) t v, Try.f6.params[j]? = some t → args[j]? = some v → Value.okWide Try.prog W .any base t v := hval0
  have hW' := hW
  obtain ⟨p, q, hA0, hV, rfl, hfz, hnd⟩ := hW
  have hA : DataW.TrodAll enc Try.prog W 0 (fun _ => true) true Try.f6.params.toList args.toList ds p := hA0
  rw [Try.params6] at hA hval
  obtain ⟨v0, vs0, d0, ds0, p0, q0, hargs, rfl, rfl, h0, r0⟩ := trodAll_cons hA
  obtain ⟨v1, vs1, d1, ds1, p1, q1, rfl, rfl, rfl, h1, r1⟩ := trodAll_cons r0
  obtain ⟨rfl, rfl, rfl⟩ := trodAll_nil r1
  obtain rfl : args = #[v0, v1] := by cases args; simp_all
  obtain ⟨rfl, rfl⟩ := trodVars_none hV
  obtain ⟨a0, rfl, rfl, rfl, w0⟩ := open_int Try.underlying3 (hval 0 3 v0 rfl rfl) h0
  obtain ⟨a1, rfl, rfl, rfl, w1⟩ := open_int Try.underlying22 (hval 1 22 v1 rfl rfl) h1
  clear hA0 hval0
  refine (walk a0 a1 W (bounds_i64 w0) (bounds_u64 w1)).mono fun e W' ⟨he, bel⟩ => ?_
  subst he
  exact ⟨_, rfl, _, _, _, [], _, [], hW', trodAll_mk1 (shut_bool Try.underlying4 _), (trodAll_cons_mk (shut_int Try.underlying3 w0) (trodAll_cons_mk (shut_int Try.underlying22 w1) trodAll_mk0)), rfl, bel.frame _, fun h => by cases h⟩

theorem over : Rows.cardsFreshRow.holds Try.pinned (OpenSpec.ofChange Rows.cardsFreshSpec) :=
  OpenClaim.holds_of_wide 6 Try.f6 rfl rfl rfl rfl rfl rfl rfl ⟨rfl, rfl, rfl, rfl, rfl⟩ rfl rfl rfl rfl rfl (by kernel_rfl) Try.func6 (by kernel_rfl)
    (of_decide_eq_true (by kernel_rfl)) (by unfold Func.isWrapper; first | (rw [if_pos (by decide +kernel)]; kernel_rfl) | (rw [if_neg (by decide +kernel)]; exact ⟨rfl, rfl⟩))
    (fun os started H enc _ => lifted os started H enc)

theorem proved : Rows.CardsFreshSaid := over
#print axioms proved
end Go.Proofs.Ytechglhmdofcbaa.cardsFresh
