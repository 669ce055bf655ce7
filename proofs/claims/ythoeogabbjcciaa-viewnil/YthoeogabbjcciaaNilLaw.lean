/- What is proved: the given statement ViewNilSaid: for every step and every number the law returns true, and its arguments read afterwards as before. There are no further conditions. -/
import Derived.Test.YthoeogabbjcciaaRows
import Derived.Test.YthoeogabbjcciaaVwN
import Derived.Test.YthoeogabbjcciaaBx
namespace Go.Proofs.Ythoeogabbjcciaa.viewNil
open Go.RowKit Go.Maps Go.ChangeMaps Go.ChangeShapes Go.WideShapes Go.ChangeAt Go.Deep Go.Joins
set_option linter.unusedVariables false

set_option maxHeartbeats 2000000 in
set_option maxRecDepth 100000 in
theorem walk (o : Vop) (a : Int) (w : World) (_ : VopIn w o) (_ : -9223372036854775808 ≤ a ∧ a ≤ 9223372036854775807) :
    Calls Try.prog 3 #[.agg o.vals.toArray, .int .i64 a] w fun e w' => e = .returned (.bool true) ∧ Below w.heap.size w w' := by
  rw [vals_eq]
  obtain ⟨k, hk96, hk1, hk2⟩ := place_in a 2824 (by omega) (by omega)
  have hk : k < 2824 := by omega
  have HK : Hid (k < 2824) := hk
  go_enter Try.func3, Try.ntmps3
  go_wp2_with fail
  obtain ⟨W, hW, hX, hB, hl⟩ := box_new w o
  rw [hW]
  obtain ⟨G, hG⟩ : ∃ G, w.heap.size = G := ⟨_, rfl⟩
  have HGG : Hid (w.heap.size = G) := hG
  have HB0 : Hid (Below G w W) := by rw [hG] at hB; exact hB
  rw [hG] at hX hl ⊢
  have HX0 : Hid (BoxAt W G o) := hX
  clear hW hX hB hG
  refine (lives_any _).mono ?_
  rintro e w1 ⟨rfl, hb⟩
  have HX1 : Hid (BoxAt w1 G o) := HX0.out.later hl hb
  have HB1 : Hid (Below G w w1) := HB0.out.trans (hb.mono (by omega))
  have hl1 : G < w1.heap.size := Nat.lt_of_lt_of_le hl hb.size
  clear hb hl
  go_wp2_with fail
  refine (vnew_nil _).mono ?_
  rintro e w' ⟨rfl, hw⟩
  obtain rfl := hw.symm
  have c1 := HX1.out.c1
  go_wp2_with fail
  refine (ncard o.at_ _).mono ?_
  rintro e w2 ⟨rfl, hb⟩
  have HX2 : Hid (BoxAt w2 G o) := HX1.out.later hl1 hb
  have HB2 : Hid (Below G w w2) := HB1.out.trans (hb.mono (by omega))
  have hl2 : G < w2.heap.size := Nat.lt_of_lt_of_le hl1 hb.size
  clear hb c1
  have hB : Below w2.heap.size w2 (w2.alloc (.cells #[.int .i64 0, .int .i64 0, .int .i64 0, .int .u64 0, .int .i64 0, .int .i64 0, .int .i64 0, .int .i64 0, .int .i64 0, .int .i64 0] 25)) := (Below.refl _ _).alloc (Nat.le_refl _) _
  have HX3 : Hid (BoxAt (w2.alloc (.cells #[.int .i64 0, .int .i64 0, .int .i64 0, .int .u64 0, .int .i64 0, .int .i64 0, .int .i64 0, .int .i64 0, .int .i64 0, .int .i64 0] 25)) G o) := HX2.out.later hl2 hB
  have HB3 : Hid (Below G w (w2.alloc (.cells #[.int .i64 0, .int .i64 0, .int .i64 0, .int .u64 0, .int .i64 0, .int .i64 0, .int .i64 0, .int .i64 0, .int .i64 0, .int .i64 0] 25))) := HB2.out.trans (hB.mono (by omega))
  have hl3 : G < (w2.alloc (.cells #[.int .i64 0, .int .i64 0, .int .i64 0, .int .u64 0, .int .i64 0, .int .i64 0, .int .i64 0, .int .i64 0, .int .i64 0, .int .i64 0] 25)).heap.size := Nat.lt_of_lt_of_le hl2 hB.size
  have c1 := HX3.out.c1
  have c14 := HX3.out.c14
  clear hB
  go_wp2_with fail
  obtain ⟨X, hX⟩ : ∃ X, w2.alloc (.cells #[.int .i64 0, .int .i64 0, .int .i64 0, .int .u64 0, .int .i64 0, .int .i64 0, .int .i64 0, .int .i64 0, .int .i64 0, .int .i64 0] 25) = X := ⟨_, rfl⟩
  rw [hX] at HX3 HB3 hl3 ⊢
  rw [hX] at c1 c14
  clear hX
  refine (nblock o.at_ _).mono ?_
  rintro e w' ⟨rfl, hw⟩
  obtain rfl := hw.symm
  go_wp2_with fail
  refine (navoid _ _ _ _ _ _ _).mono ?_
  rintro e w' ⟨rfl, hw⟩
  obtain rfl := hw.symm
  go_wp2_with fail
  refine (nreset _).mono ?_
  rintro e w' ⟨rfl, hw⟩
  obtain rfl := hw.symm
  go_wp2_with fail
  refine (memNew_any k _ HK.out).mono ?_
  rintro e w4 ⟨L, M, rfl, hm, hlen, hb⟩
  have HX4 : Hid (BoxAt w4 G o) := HX3.out.later hl3 hb
  have HB4 : Hid (Below G w w4) := HB3.out.trans (hb.mono (by omega))
  have hl4 : G < w4.heap.size := Nat.lt_of_lt_of_le hl3 hb.size
  have HM4 : Hid (MemIs w4 L M) := hm
  have HLEN : Hid (M.sure.length ≠ 2824) := by
    have := HK.out
    show _ ≠ _
    omega
  clear c1 c14 hb hm hlen
  go_wp2_with fail
  refine (vnew_small L M w4 HM4.out HLEN.out).mono ?_
  rintro e w' ⟨rfl, hw⟩
  obtain rfl := hw.symm
  have c1 := HX4.out.c1
  have c2 := HX4.out.c2
  have c3 := HX4.out.c3
  have c4 := HX4.out.c4
  have c5 := HX4.out.c5
  have c6 := HX4.out.c6
  have c7 := HX4.out.c7
  have c8 := HX4.out.c8
  have c9 := HX4.out.c9
  have c10 := HX4.out.c10
  have c11 := HX4.out.c11
  have c12 := HX4.out.c12
  go_wp2_with fail
  refine (nread o.at_ _).mono ?_
  rintro e w' ⟨rfl, hw⟩
  obtain rfl := hw.symm
  go_wp2_with fail
  refine (nwrite o.at_ o.v _).mono ?_
  rintro e w' ⟨rfl, hw⟩
  obtain rfl := hw.symm
  go_wp2_with fail
  refine (nset o.c.k o.c.l o.c.s o.c.v o.c.d0 o.c.d1 o.c.d2 o.c.d3 o.c.d4 o.c.m o.at_ _).mono ?_
  rintro e w5 ⟨rfl, hb⟩
  have HX5 : Hid (BoxAt w5 G o) := HX4.out.later hl4 hb
  have HB5 : Hid (Below G w w5) := HB4.out.trans (hb.mono (by omega))
  clear hb c1 c2 c3 c4 c5 c6 c7 c8 c9 c10 c11 c12
  have c1 := HX5.out.c1
  have c13 := HX5.out.c13
  go_wp2_with fail
  refine (nsetBlock _ _ _ o.at_ _).mono ?_
  rintro e w' ⟨rfl, hw⟩
  obtain rfl := hw.symm
  go_wp2_with fail
  refine (nchanges _).mono ?_
  rintro e w' ⟨rfl, hw⟩
  obtain rfl := hw.symm
  go_wp2_with fail
  refine (nseen _).mono ?_
  rintro e w' ⟨rfl, hw⟩
  obtain rfl := hw.symm
  go_wp2_with fail
  refine (nmine _).mono ?_
  rintro e w' ⟨rfl, hw⟩
  obtain rfl := hw.symm
  go_wp2_with fail
  refine (naway o.at_ _).mono ?_
  rintro e w' ⟨rfl, hw⟩
  obtain rfl := hw.symm
  go_wp2_with fail
  refine (nawayN o.at_ _).mono ?_
  rintro e w' ⟨rfl, hw⟩
  obtain rfl := hw.symm
  go_wp2_with fail
  refine (nfresh o.at_ _).mono ?_
  rintro e w' ⟨rfl, hw⟩
  obtain rfl := hw.symm
  go_wp2
  go_ret
  refine ⟨rfl, ?_⟩
  have := HB5.out
  rw [← HGG.out] at this
  exact this

set_option maxRecDepth 100000 in
theorem lifted (os : Os) (started : os.Started) (H : Type) (enc : TypeId × Value → H) :
    ReturnsInHanded {} Try.checked os 3 .any (Rows.viewNilSpec.pre6 enc Try.prog Try.f3 Rows.viewNilRow.domain false) (Rows.viewNilSpec.post enc Try.prog Try.f3 false true false false) := by
  refine returnsInHanded_of_change (C := Try.checked) own started (by kernel_rfl) Try.func3
    (ChangeSpec.witness6 (enc := enc) (C := Try.checked) false ⟨#[], #[.agg #[.int .i64 0, .int .i64 0, .int .u64 0, .int .i64 0, .int .i64 0, .int .i64 0, .int .u64 0, .int .i64 0, .int .i64 0, .int .i64 0, .int .i64 0, .int .i64 0, .int .i64 0, .slice none 0 0, .slice none 0 0], .int .i64 0], []⟩ 8 (by kernel_rfl) (by kernel_rfl) (by kernel_rfl) (by kernel_rfl)) ?_
  intro W base args ds gs before hval0 hW hcnd _
  have hval : ∀ (j : Nat) t v, Try.f3.params[j]? = some t → args[j]? = some v → Value.okWide Try.prog W .any base t v := hval0
  have hW' := hW
  obtain ⟨p, q, hA0, hV, rfl, hfz, hnd⟩ := hW
  have hA : DataW.TrodAll enc Try.prog W 0 (fun _ => true) true Try.f3.params.toList args.toList ds p := hA0
  rw [Try.params3] at hA hval
  obtain ⟨v0, vs0, d0, ds0, p0, q0, hargs, rfl, rfl, h0, r0⟩ := trodAll_cons hA
  obtain ⟨v1, vs1, d1, ds1, p1, q1, rfl, rfl, rfl, h1, r1⟩ := trodAll_cons r0
  obtain ⟨rfl, rfl, rfl⟩ := trodAll_nil r1
  obtain rfl : args = #[v0, v1] := by cases args; simp_all
  obtain ⟨rfl, rfl⟩ := trodVars_none hV
  have k0 := h0
  have lt0 : ∀ x ∈ p0, x.block < W.heap.size := by obtain ⟨m, hm⟩ := k0; exact DataW.trod_lt m _ _ _ hm
  obtain ⟨a0, rfl, w0⟩ := open_step (hval 0 29 v0 rfl rfl) h0
  obtain ⟨a1, rfl, rfl, rfl, w1⟩ := open_int Try.underlying3 (hval 1 3 v1 rfl rfl) h1
  clear hA0 hval0
  refine (walk a0 a1 W w0 (bounds_i64 w1)).mono fun e W' ⟨he, bel⟩ => ?_
  subst he
  exact ⟨_, rfl, _, _, _, [], _, [], hW', trodAll_mk1 (shut_bool Try.underlying4 _), (trodAll_cons_mk (Below.trod laidOut (by kernel_rfl) (of_decide_eq_true (by kernel_rfl)) k0 bel lt0) (trodAll_cons_mk (shut_int Try.underlying3 w1) trodAll_mk0)), rfl, bel.frame _, fun h => by cases h⟩

theorem over : Rows.viewNilRow.holds Try.pinned (OpenSpec.ofChange Rows.viewNilSpec) :=
  OpenClaim.holds_of_wide 3 Try.f3 rfl rfl rfl rfl rfl rfl rfl ⟨rfl, rfl, rfl, rfl, rfl⟩ rfl rfl rfl rfl rfl (by kernel_rfl) Try.func3 (by kernel_rfl)
    (of_decide_eq_true (by kernel_rfl)) (by unfold Func.isWrapper; first | (rw [if_pos (by decide +kernel)]; kernel_rfl) | (rw [if_neg (by decide +kernel)]; exact ⟨rfl, rfl⟩))
    (fun os started H enc _ => lifted os started H enc)

theorem proved : Rows.ViewNilSaid := over
#print axioms proved
end Go.Proofs.Ythoeogabbjcciaa.viewNil
