/- A step of both views. -/
import Derived.Test.YtomlbifplliakaaGreatSt
import Derived.Deep.RegionHeld3
namespace Go.Proofs.YtomlbifplliakaaGreat
open Go.RowKit Go.Maps Go.ChangeMaps

theorem BoxAt.drew {w : World} {g : Nat} {o : Vop} (h : BoxAt w g o) : BoxAt w.drew g o := ⟨h.c0, h.c1, h.c2, h.c3, h.c4, h.c5, h.c6, h.c7, h.c8, h.c9, h.c10, h.c11, h.c12, h.c13, h.c14⟩
def StepPost (w0 w : World) (V : VLay) (N : Nat) (L : Lay) (M : Mem) (R : RLay) (w' : World) : Prop :=
  ∃ V' S' R', Pair w0 w' V' S' (N + 16) L M R' ∧ V'.vb = V.vb ∧ R'.rb = R.rb ∧ Only (both V R) w w' ∧ (∀ j ∈ V'.all, j ∈ V.all ∨ w.heap.size ≤ j) ∧ (∀ j ∈ R'.blocks, j ∈ R.blocks ∨ w.heap.size ≤ j)

set_option maxHeartbeats 1000000 in
set_option maxRecDepth 100000 in
theorem step0 (w0 w : World) (V : VLay) (S : Vw) (N : Nat) (L : Lay) (M : Mem) (R : RLay) (o : Vop) (P0 : Pair w0 w V S N L M R) (ho : VopIn w0 o) (hN : N < 800000000) (hz1 : wrap64 ((IntKind.u64.wrap o.kind).tmod 9) = 0) (hz2 : IntKind.i64.wrap ((IntKind.u64.wrap o.kind).tmod 9) = 0) :
    Calls Tryz.prog 11 #[.pointer (some ⟨V.vb, 0, none⟩), .pointer (some ⟨R.rb, 0, none⟩), .agg #[.int .i64 o.kind, .int .i64 o.at_, .int .u64 o.v, .int .i64 o.c.k, .int .i64 o.c.l, .int .i64 o.c.s, .int .u64 o.c.v, .int .i64 o.c.d0, .int .i64 o.c.d1, .int .i64 o.c.d2, .int .i64 o.c.d3, .int .i64 o.c.d4, .int .i64 o.c.m, .slice o.la o.ln o.lc, .slice o.na o.nn o.nc]] w fun e w' => SomeBool e ∧ StepPost w0 w V N L M R w' := by
  have HKD : Hid (∀ w, Calls Tryz.prog 29 #[.agg #[.int .i64 o.kind, .int .i64 o.at_, .int .u64 o.v, .int .i64 o.c.k, .int .i64 o.c.l, .int .i64 o.c.s, .int .u64 o.c.v, .int .i64 o.c.d0, .int .i64 o.c.d1, .int .i64 o.c.d2, .int .i64 o.c.d3, .int .i64 o.c.d4, .int .i64 o.c.m, .slice o.la o.ln o.lc, .slice o.na o.nn o.nc]] w fun e w' => e = .returned (.int .i64 0) ∧ Below w.heap.size w w') := fun w => kind_any o 0 w (by omega) hz1 hz2
  have HGN : Hid (w.heap.size ∉ both V R) := fun hm => by
    unfold both at hm
    rcases List.mem_append.1 hm with e | e
    · have := P0.view.all_lt _ (V.blocks_all _ e); omega
    · have := P0.ref.all_lt _ e; omega
  have HH : Hid (VopIn w0 o) := ho
  clear hz1 hz2 ho
  go_enter Tryz.func11, Tryz.ntmps11
  go_wp2_with fail
  obtain ⟨Y, hY, hX, hB, hl⟩ := box_new w o
  rw [hY]
  obtain ⟨G, hG⟩ : ∃ G, w.heap.size = G := ⟨_, rfl⟩
  refine Calls.mono (HKD.out _) ?_
  rintro e w2 ⟨rfl, hb⟩
  have HX2 : BoxAt w2 G o := by rw [← hG]; exact hX.later hl hb
  have P2 : Pair w0 w2 V S N L M R := (P0.later hB).later hb
  have HO2 : Only (both V R) w w2 := (Only.of_below hB).thenBelow hb hB.size
  rw [hG] at HGN ⊢
  have HGG : Hid (w.heap.size = G) := hG
  clear hY hX hB hl hb hG
  have z1 := HX2.c1
  have z2 := HX2.c2
  have HX := HX2.drew
  have P := P2.drew
  have HO := HO2.drew
  go_wp2_with fail
  go_region_held3 (fun v' => v'.cell? ⟨G, 1, none⟩ = some (.int .i64 o.at_) ∧ v'.cell? ⟨G, 2, none⟩ = some (.int .u64 o.v)) (first | go_keep | exact ⟨z1, z2⟩)
    (first
      | (go_at_call 21; refine (pv_write w0 _ V _ _ L M R o.at_ o.v P (by omega) HH.out.at_ HH.out.v).mono ?_; rintro e v1 ⟨⟨x_, rfl⟩, ⟨S1, P1⟩, o1⟩; have P := P1; have HO := HO.trans o1; have HX := HX.only o1 HGN.out; have z1 := HX.c1; have z2 := HX.c2)
      | (go_at_call 30; refine (pr_write w0 _ V _ _ L M R o.at_ o.v P HH.out.v).mono ?_; rintro e v1 ⟨⟨x_, rfl⟩, P1, o1⟩; have P := P1; have HO := HO.trans o1; have HX := HX.only o1 HGN.out; have z1 := HX.c1; have z2 := HX.c2))
  all_goals
    go_wp2
    go_ret
    exact ⟨⟨_, rfl⟩, _, _, _, P.mono (by omega), rfl, rfl, HO, fun _ hj => .inl hj, fun _ hj => .inl hj⟩

set_option maxHeartbeats 1000000 in
set_option maxRecDepth 100000 in
theorem step4 (w0 w : World) (V : VLay) (S : Vw) (N : Nat) (L : Lay) (M : Mem) (R : RLay) (o : Vop) (P0 : Pair w0 w V S N L M R) (ho : VopIn w0 o) (hN : N < 800000000) (hz1 : wrap64 ((IntKind.u64.wrap o.kind).tmod 9) = 4) (hz2 : IntKind.i64.wrap ((IntKind.u64.wrap o.kind).tmod 9) = 4) :
    Calls Tryz.prog 11 #[.pointer (some ⟨V.vb, 0, none⟩), .pointer (some ⟨R.rb, 0, none⟩), .agg #[.int .i64 o.kind, .int .i64 o.at_, .int .u64 o.v, .int .i64 o.c.k, .int .i64 o.c.l, .int .i64 o.c.s, .int .u64 o.c.v, .int .i64 o.c.d0, .int .i64 o.c.d1, .int .i64 o.c.d2, .int .i64 o.c.d3, .int .i64 o.c.d4, .int .i64 o.c.m, .slice o.la o.ln o.lc, .slice o.na o.nn o.nc]] w fun e w' => SomeBool e ∧ StepPost w0 w V N L M R w' := by
  have HKD : Hid (∀ w, Calls Tryz.prog 29 #[.agg #[.int .i64 o.kind, .int .i64 o.at_, .int .u64 o.v, .int .i64 o.c.k, .int .i64 o.c.l, .int .i64 o.c.s, .int .u64 o.c.v, .int .i64 o.c.d0, .int .i64 o.c.d1, .int .i64 o.c.d2, .int .i64 o.c.d3, .int .i64 o.c.d4, .int .i64 o.c.m, .slice o.la o.ln o.lc, .slice o.na o.nn o.nc]] w fun e w' => e = .returned (.int .i64 4) ∧ Below w.heap.size w w') := fun w => kind_any o 4 w (by omega) hz1 hz2
  have HGN : Hid (w.heap.size ∉ both V R) := fun hm => by
    unfold both at hm
    rcases List.mem_append.1 hm with e | e
    · have := P0.view.all_lt _ (V.blocks_all _ e); omega
    · have := P0.ref.all_lt _ e; omega
  have HH : Hid (VopIn w0 o) := ho
  clear hz1 hz2 ho
  go_enter Tryz.func11, Tryz.ntmps11
  go_wp2_with fail
  obtain ⟨Y, hY, hX, hB, hl⟩ := box_new w o
  rw [hY]
  obtain ⟨G, hG⟩ : ∃ G, w.heap.size = G := ⟨_, rfl⟩
  refine Calls.mono (HKD.out _) ?_
  rintro e w2 ⟨rfl, hb⟩
  have HX2 : BoxAt w2 G o := by rw [← hG]; exact hX.later hl hb
  have P2 : Pair w0 w2 V S N L M R := (P0.later hB).later hb
  have HO2 : Only (both V R) w w2 := (Only.of_below hB).thenBelow hb hB.size
  rw [hG] at HGN ⊢
  have HGG : Hid (w.heap.size = G) := hG
  clear hY hX hB hl hb hG
  have z1 := HX2.c1
  have z13 := HX2.c13
  have HX := HX2.drew
  have P := P2.drew
  have HO := HO2.drew
  go_wp2_with fail
  go_region_held3 (fun v' => v'.cell? ⟨G, 1, none⟩ = some (.int .i64 o.at_) ∧ v'.cell? ⟨G, 13, none⟩ = some (.slice o.la o.ln o.lc)) (first | go_keep | exact ⟨z1, z13⟩)
    (first
      | (go_at_call 37; refine (pv_setBlock w0 _ V _ _ L M R o.at_ o P (by omega) HH.out).mono ?_; rintro e v1 ⟨⟨x_, rfl⟩, ⟨S1, P1⟩, o1⟩; have P := P1; have HO := HO.trans o1; have HX := HX.only o1 HGN.out; have z1 := HX.c1; have z13 := HX.c13)
      | (go_at_call 38; refine (pr_setBlock w0 _ V _ _ L M R o.at_ o P HH.out).mono ?_; rintro e v1 ⟨⟨x_, rfl⟩, P1, o1⟩; have P := P1; have HO := HO.trans o1; have HX := HX.only o1 HGN.out; have z1 := HX.c1; have z13 := HX.c13))
  all_goals
    go_wp2
    go_ret
    exact ⟨⟨_, rfl⟩, _, _, _, P.mono (by omega), rfl, rfl, HO, fun _ hj => .inl hj, fun _ hj => .inl hj⟩

set_option maxHeartbeats 1000000 in
set_option maxRecDepth 100000 in
theorem step2 (w0 w : World) (V : VLay) (S : Vw) (N : Nat) (L : Lay) (M : Mem) (R : RLay) (o : Vop) (P0 : Pair w0 w V S N L M R) (ho : VopIn w0 o) (hN : N < 800000000) (hz1 : wrap64 ((IntKind.u64.wrap o.kind).tmod 9) = 2) (hz2 : IntKind.i64.wrap ((IntKind.u64.wrap o.kind).tmod 9) = 2) :
    Calls Tryz.prog 11 #[.pointer (some ⟨V.vb, 0, none⟩), .pointer (some ⟨R.rb, 0, none⟩), .agg #[.int .i64 o.kind, .int .i64 o.at_, .int .u64 o.v, .int .i64 o.c.k, .int .i64 o.c.l, .int .i64 o.c.s, .int .u64 o.c.v, .int .i64 o.c.d0, .int .i64 o.c.d1, .int .i64 o.c.d2, .int .i64 o.c.d3, .int .i64 o.c.d4, .int .i64 o.c.m, .slice o.la o.ln o.lc, .slice o.na o.nn o.nc]] w fun e w' => SomeBool e ∧ StepPost w0 w V N L M R w' := by
  have HKD : Hid (∀ w, Calls Tryz.prog 29 #[.agg #[.int .i64 o.kind, .int .i64 o.at_, .int .u64 o.v, .int .i64 o.c.k, .int .i64 o.c.l, .int .i64 o.c.s, .int .u64 o.c.v, .int .i64 o.c.d0, .int .i64 o.c.d1, .int .i64 o.c.d2, .int .i64 o.c.d3, .int .i64 o.c.d4, .int .i64 o.c.m, .slice o.la o.ln o.lc, .slice o.na o.nn o.nc]] w fun e w' => e = .returned (.int .i64 2) ∧ Below w.heap.size w w') := fun w => kind_any o 2 w (by omega) hz1 hz2
  have HGN : Hid (w.heap.size ∉ both V R) := fun hm => by
    unfold both at hm
    rcases List.mem_append.1 hm with e | e
    · have := P0.view.all_lt _ (V.blocks_all _ e); omega
    · have := P0.ref.all_lt _ e; omega
  have HH : Hid (VopIn w0 o) := ho
  clear hz1 hz2 ho
  go_enter Tryz.func11, Tryz.ntmps11
  go_wp2_with fail
  obtain ⟨Y, hY, hX, hB, hl⟩ := box_new w o
  rw [hY]
  obtain ⟨G, hG⟩ : ∃ G, w.heap.size = G := ⟨_, rfl⟩
  refine Calls.mono (HKD.out _) ?_
  rintro e w2 ⟨rfl, hb⟩
  have HX2 : BoxAt w2 G o := by rw [← hG]; exact hX.later hl hb
  have P2 : Pair w0 w2 V S N L M R := (P0.later hB).later hb
  have HO2 : Only (both V R) w w2 := (Only.of_below hB).thenBelow hb hB.size
  rw [hG] at HGN ⊢
  have HGG : Hid (w.heap.size = G) := hG
  clear hY hX hB hl hb hG
  have z1 := HX2.c1
  have z3 := HX2.c3
  have z4 := HX2.c4
  have z5 := HX2.c5
  have z6 := HX2.c6
  have z7 := HX2.c7
  have z8 := HX2.c8
  have z9 := HX2.c9
  have z10 := HX2.c10
  have z11 := HX2.c11
  have z12 := HX2.c12
  have HX := HX2.drew
  have P := P2.drew
  have HO := HO2.drew
  go_wp2_with fail
  go_region_held3 (fun v' => v'.cell? ⟨G, 1, none⟩ = some (.int .i64 o.at_) ∧ v'.cell? ⟨G, 3, none⟩ = some (.int .i64 o.c.k) ∧ v'.cell? ⟨G, 4, none⟩ = some (.int .i64 o.c.l) ∧ v'.cell? ⟨G, 5, none⟩ = some (.int .i64 o.c.s) ∧ v'.cell? ⟨G, 6, none⟩ = some (.int .u64 o.c.v) ∧ v'.cell? ⟨G, 7, none⟩ = some (.int .i64 o.c.d0) ∧ v'.cell? ⟨G, 8, none⟩ = some (.int .i64 o.c.d1) ∧ v'.cell? ⟨G, 9, none⟩ = some (.int .i64 o.c.d2) ∧ v'.cell? ⟨G, 10, none⟩ = some (.int .i64 o.c.d3) ∧ v'.cell? ⟨G, 11, none⟩ = some (.int .i64 o.c.d4) ∧ v'.cell? ⟨G, 12, none⟩ = some (.int .i64 o.c.m)) (first | go_keep | exact ⟨z1, z3, z4, z5, z6, z7, z8, z9, z10, z11, z12⟩)
    (first
      | (go_at_call 33; refine (pv_set w0 _ V _ _ L M R o.at_ o P (by omega) HH.out.cv).mono ?_; rintro e v1 ⟨⟨x_, rfl⟩, ⟨S1, P1⟩, o1⟩; have P := P1; have HO := HO.trans o1; have HX := HX.only o1 HGN.out; have z1 := HX.c1; have z3 := HX.c3; have z4 := HX.c4; have z5 := HX.c5; have z6 := HX.c6; have z7 := HX.c7; have z8 := HX.c8; have z9 := HX.c9; have z10 := HX.c10; have z11 := HX.c11; have z12 := HX.c12)
      | (go_at_call 34; refine (pr_set w0 _ V _ _ L M R o.at_ o P HH.out.cv).mono ?_; rintro e v1 ⟨⟨x_, rfl⟩, P1, o1⟩; have P := P1; have HO := HO.trans o1; have HX := HX.only o1 HGN.out; have z1 := HX.c1; have z3 := HX.c3; have z4 := HX.c4; have z5 := HX.c5; have z6 := HX.c6; have z7 := HX.c7; have z8 := HX.c8; have z9 := HX.c9; have z10 := HX.c10; have z11 := HX.c11; have z12 := HX.c12))
  all_goals
    go_wp2
    go_ret
    exact ⟨⟨_, rfl⟩, _, _, _, P.mono (by omega), rfl, rfl, HO, fun _ hj => .inl hj, fun _ hj => .inl hj⟩

end Go.Proofs.YtomlbifplliakaaGreat
