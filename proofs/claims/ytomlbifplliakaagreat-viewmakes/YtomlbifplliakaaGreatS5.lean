/- The last steps of both views. -/
import Derived.Test.YtomlbifplliakaaGreatS2
import Derived.Deep.RegionHeld3
namespace Go.Proofs.YtomlbifplliakaaGreat
open Go.RowKit Go.Maps Go.ChangeMaps

set_option linter.unusedVariables false

theorem card_stored (w : World) (k l s v d0 d1 d2 d3 d4 m : Int) : ∃ W : World, w.alloc (.cells #[.int .i64 k, .int .i64 l, .int .i64 s, .int .u64 v, .int .i64 d0, .int .i64 d1, .int .i64 d2, .int .i64 d3, .int .i64 d4, .int .i64 m] 38) = W ∧ Cd.Ten W w.heap.size k l s v d0 d1 d2 d3 d4 m ∧ Below w.heap.size w W ∧ w.heap.size < W.heap.size :=
  ⟨_, rfl, Cd.ten_alloc w k l s v d0 d1 d2 d3 d4 m, (Below.refl _ _).alloc (Nat.le_refl _) _, by simp⟩

set_option maxHeartbeats 4000000 in
set_option maxRecDepth 100000 in
theorem step1 (w0 w : World) (V : VLay) (S : Vw) (N : Nat) (L : Lay) (M : Mem) (R : RLay) (o : Vop) (P0 : Pair w0 w V S N L M R) (ho : VopIn w0 o) (hN : N < 800000000) (hz1 : wrap64 ((IntKind.u64.wrap o.kind).tmod 9) = 1) (hz2 : IntKind.i64.wrap ((IntKind.u64.wrap o.kind).tmod 9) = 1) :
    Calls Tryz.prog 11 #[.pointer (some ⟨V.vb, 0, none⟩), .pointer (some ⟨R.rb, 0, none⟩), .agg #[.int .i64 o.kind, .int .i64 o.at_, .int .u64 o.v, .int .i64 o.c.k, .int .i64 o.c.l, .int .i64 o.c.s, .int .u64 o.c.v, .int .i64 o.c.d0, .int .i64 o.c.d1, .int .i64 o.c.d2, .int .i64 o.c.d3, .int .i64 o.c.d4, .int .i64 o.c.m, .slice o.la o.ln o.lc, .slice o.na o.nn o.nc]] w fun e w' => SomeBool e ∧ StepPost w0 w V N L M R w' := by
  have HKD : Hid (∀ w, Calls Tryz.prog 29 #[.agg #[.int .i64 o.kind, .int .i64 o.at_, .int .u64 o.v, .int .i64 o.c.k, .int .i64 o.c.l, .int .i64 o.c.s, .int .u64 o.c.v, .int .i64 o.c.d0, .int .i64 o.c.d1, .int .i64 o.c.d2, .int .i64 o.c.d3, .int .i64 o.c.d4, .int .i64 o.c.m, .slice o.la o.ln o.lc, .slice o.na o.nn o.nc]] w fun e w' => e = .returned (.int .i64 1) ∧ Below w.heap.size w w') := fun w => kind_any o 1 w (by omega) hz1 hz2
  have HGN : Hid (w.heap.size ∉ both V R) := fun hm => by
    unfold both at hm
    rcases List.mem_append.1 hm with e | e
    · have := P0.view.all_lt _ (V.blocks_all _ e); omega
    · have := P0.ref.all_lt _ e; omega
  have HH : Hid (VopIn w0 o) := ho
  clear hz1 hz2 ho
  go_enter Tryz.func11, Tryz.ntmps11
  go_wp2_with fail
  obtain ⟨Y, hY, hX, hB, hl⟩ := box_new w o
  rw [hY]
  obtain ⟨G, hG⟩ : ∃ G, w.heap.size = G := ⟨_, rfl⟩
  refine Calls.mono (HKD.out _) ?_
  rintro e w2 ⟨rfl, hb⟩
  have HX2 : BoxAt w2 G o := by rw [← hG]; exact hX.later hl hb
  have P2 : Pair w0 w2 V S N L M R := (P0.later hB).later hb
  have HO2 : Only (both V R) w w2 := (Only.of_below hB).thenBelow hb hB.size
  rw [hG] at HGN ⊢
  have HGG : Hid (w.heap.size = G) := hG
  clear hY hX hB hl hb hG
  have z1 := HX2.c1
  go_wp2_with fail
  refine (pv_card w0 w2 V S N L M R o.at_ P2 (by omega)).mono ?_
  rintro e w3 ⟨⟨k, l, s, v, d0, d1, d2, d3, d4, m, x, rfl⟩, ⟨S1, P3⟩, O3⟩
  have HX3 := HX2.only O3 HGN.out
  have HO3 := HO2.trans O3
  obtain ⟨W, hW, hT, hB, hl⟩ := card_stored w3 k l s v d0 d1 d2 d3 d4 m
  have HXW := HX3.later (World.block_lt_of_cell? w3 _ HX3.c0) hB
  have PW := P3.later hB
  have HOW := HO3.thenBelow hB HO3.size
  have y1 := HXW.c1
  rw [← hW] at y1
  have HT : Hid (Cd.Ten W w3.heap.size k l s v d0 d1 d2 d3 d4 m) := hT
  have HW : Hid _ := hW
  have HG3 : Hid (w3.heap.size ∉ both V R) := fun hm => by
    unfold both at hm
    rcases List.mem_append.1 hm with e | e
    · have := P3.view.all_lt _ (V.blocks_all _ e); omega
    · have := P3.ref.all_lt _ e; omega
  clear hT hB O3 hl hW
  go_wp2_with fail
  rw [HW.out]
  clear y1
  refine (pr_card w0 W V S1 (N + 16) L M R o.at_ PW).mono ?_
  rintro e w4 ⟨⟨k', l', s', v', e0, e1, e2, e3, e4, m', x', rfl⟩, P4, O4⟩
  have HO4 := HOW.trans O4
  have hlt3 : w3.heap.size < W.heap.size := World.block_lt_of_cell? W _ HT.out.1
  have HT4 : Hid (Cd.Ten w4 w3.heap.size k l s v d0 d1 d2 d3 d4 m) := by
    have e : ∀ i, w4.cell? ⟨w3.heap.size, i, none⟩ = W.cell? ⟨w3.heap.size, i, none⟩ := fun i => World.cell?_of_block (w := W) (O4.block _ hlt3 HG3.out)
    have := HT.out
    unfold Cd.Ten at this
    unfold Hid Cd.Ten
    simp only [e]
    exact this
  obtain ⟨W4, hW4, hT4, hB4, hl4⟩ := card_stored w4 k' l' s' v' e0 e1 e2 e3 e4 m'
  have PW4 := P4.later hB4
  have HOW4 := HO4.thenBelow hB4 HO4.size
  have hT1 := HT4.out.later (by have := O4.size; omega) hB4
  obtain ⟨t0, t1, t2, t3, t4, t5, t6, t7, t8, t9⟩ := hT1
  obtain ⟨r0, r1, r2, r3, r4, r5, r6, r7, r8, r9⟩ := hT4
  rw [← hW4] at t0 t1 t2 t3 t4 t5 t6 t7 t8 t9 r0 r1 r2 r3 r4 r5 r6 r7 r8 r9
  have he := Cd.eq_card k l s v d0 d1 d2 d3 d4 m k' l' s' v' e0 e1 e2 e3 e4 m'
  have HW4 : Hid _ := hW4
  have HP4 : Hid (Pair w0 W4 V S1 (N + 16) L M R ∧ Only (both V R) w W4) := ⟨PW4, HOW4⟩
  clear hB4 hl4 hlt3 O4 hW4 PW4 HOW4 P4 HO4 PW HOW HX3 HXW HO3 P3
  cases hd : decide (k = k' ∧ l = l' ∧ s = s' ∧ v = v' ∧ (d0 = e0 ∧ d1 = e1 ∧ d2 = e2 ∧ d3 = e3 ∧ d4 = e4) ∧ m = m')
  all_goals
    rw [hd] at he
    clear hd
    go_wp2
    go_ret
    rw [HW4.out]
    exact ⟨⟨_, rfl⟩, _, _, _, HP4.out.1.mono (by omega), rfl, rfl, HP4.out.2, fun _ hj => .inl hj, fun _ hj => .inl hj⟩

end Go.Proofs.YtomlbifplliakaaGreat
