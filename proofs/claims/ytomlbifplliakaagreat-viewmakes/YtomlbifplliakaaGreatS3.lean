/- More steps of both views. -/
import Derived.Test.YtomlbifplliakaaGreatS2
import Derived.Deep.RegionHeld3
namespace Go.Proofs.YtomlbifplliakaaGreat
open Go.RowKit Go.Maps Go.ChangeMaps

set_option linter.unusedVariables false

section
variable (w0 w : World) (V : VLay) (S : Vw) (N : Nat) (L : Lay) (M : Mem) (R : RLay)
theorem pv_read (k : Int) (h : Pair w0 w V S N L M R) (hk : (Lit.int .i64 k).wf = true) :
    Calls Tryz.prog 12 #[.pointer (some ⟨V.vb, 0, none⟩), .int .i64 k] w fun e w' => SomeInt .u64 e ∧ Pair w0 w' V S N L M R ∧ Only (both V R) w w' :=
  (vread_any V S N L M k w h.view h.mem h.mb hk).mono fun _ _ ⟨h1, h2⟩ => ⟨⟨_, h1⟩, by rw [h2]; exact h, by rw [h2]; exact Only.refl _ _⟩
theorem pr_read (k : Int) (h : Pair w0 w V S N L M R) :
    Calls Tryz.prog 46 #[.pointer (some ⟨R.rb, 0, none⟩), .int .i64 k] w fun e w' => SomeInt .u64 e ∧ Pair w0 w' V S N L M R ∧ Only (both V R) w w' :=
  (rread w0 R k w h.ref).mono fun _ _ ⟨h1, h2⟩ => ⟨h1, by rw [h2]; exact h, by rw [h2]; exact Only.refl _ _⟩
end

set_option maxHeartbeats 1000000 in
set_option maxRecDepth 100000 in
theorem step8 (w0 w : World) (V : VLay) (S : Vw) (N : Nat) (L : Lay) (M : Mem) (R : RLay) (o : Vop) (P0 : Pair w0 w V S N L M R) (ho : VopIn w0 o) (hN : N < 800000000) (hz1 : wrap64 ((IntKind.u64.wrap o.kind).tmod 9) = 8) (hz2 : IntKind.i64.wrap ((IntKind.u64.wrap o.kind).tmod 9) = 8) :
    Calls Tryz.prog 11 #[.pointer (some ⟨V.vb, 0, none⟩), .pointer (some ⟨R.rb, 0, none⟩), .agg #[.int .i64 o.kind, .int .i64 o.at_, .int .u64 o.v, .int .i64 o.c.k, .int .i64 o.c.l, .int .i64 o.c.s, .int .u64 o.c.v, .int .i64 o.c.d0, .int .i64 o.c.d1, .int .i64 o.c.d2, .int .i64 o.c.d3, .int .i64 o.c.d4, .int .i64 o.c.m, .slice o.la o.ln o.lc, .slice o.na o.nn o.nc]] w fun e w' => SomeBool e ∧ StepPost w0 w V N L M R w' := by
  have HKD : Hid (∀ w, Calls Tryz.prog 29 #[.agg #[.int .i64 o.kind, .int .i64 o.at_, .int .u64 o.v, .int .i64 o.c.k, .int .i64 o.c.l, .int .i64 o.c.s, .int .u64 o.c.v, .int .i64 o.c.d0, .int .i64 o.c.d1, .int .i64 o.c.d2, .int .i64 o.c.d3, .int .i64 o.c.d4, .int .i64 o.c.m, .slice o.la o.ln o.lc, .slice o.na o.nn o.nc]] w fun e w' => e = .returned (.int .i64 8) ∧ Below w.heap.size w w') := fun w => kind_any o 8 w (by omega) hz1 hz2
  have HGN : Hid (w.heap.size ∉ both V R) := fun hm => by
    unfold both at hm
    rcases List.mem_append.1 hm with e | e
    · have := P0.view.all_lt _ (V.blocks_all _ e); omega
    · have := P0.ref.all_lt _ e; omega
  have HH : Hid (VopIn w0 o) := ho
  clear hz1 hz2 ho
  go_enter Tryz.func11, Tryz.ntmps11
  go_wp2_with fail
  obtain ⟨Y, hY, hX, hB, hl⟩ := box_new w o
  rw [hY]
  obtain ⟨G, hG⟩ : ∃ G, w.heap.size = G := ⟨_, rfl⟩
  refine Calls.mono (HKD.out _) ?_
  rintro e w2 ⟨rfl, hb⟩
  have HX2 : BoxAt w2 G o := by rw [← hG]; exact hX.later hl hb
  have P2 : Pair w0 w2 V S N L M R := (P0.later hB).later hb
  have HO2 : Only (both V R) w w2 := (Only.of_below hB).thenBelow hb hB.size
  rw [hG] at HGN ⊢
  have HGG : Hid (w.heap.size = G) := hG
  clear hY hX hB hl hb hG
  have z1 := HX2.c1
  have HX := HX2.drew
  have P := P2.drew
  have HO := HO2.drew
  go_wp2_with fail
  go_region_held3 (fun v' => v'.cell? ⟨G, 1, none⟩ = some (.int .i64 o.at_)) (first | go_keep | exact z1)
    (first
      | (go_at_call 12; refine (pv_read w0 _ V _ _ L M R o.at_ P HH.out.at_).mono ?_; rintro e v1 ⟨⟨x_, rfl⟩, P1, o1⟩; have P := P1; have HO := HO.trans o1; have HX := HX.only o1 HGN.out; have z1 := HX.c1)
      | (go_at_call 46; refine (pr_read w0 _ V _ _ L M R o.at_ P).mono ?_; rintro e v1 ⟨⟨x_, rfl⟩, P1, o1⟩; have P := P1; have HO := HO.trans o1; have HX := HX.only o1 HGN.out; have z1 := HX.c1))
  all_goals
    go_wp2
    go_ret
    exact ⟨⟨_, rfl⟩, _, _, _, P.mono (by omega), rfl, rfl, HO, fun _ hj => .inl hj, fun _ hj => .inl hj⟩

set_option maxHeartbeats 1000000 in
set_option maxRecDepth 100000 in
theorem step7 (w0 w : World) (V : VLay) (S : Vw) (N : Nat) (L : Lay) (M : Mem) (R : RLay) (o : Vop) (P0 : Pair w0 w V S N L M R) (ho : VopIn w0 o) (hN : N < 800000000) (hz1 : wrap64 ((IntKind.u64.wrap o.kind).tmod 9) = 7) (hz2 : IntKind.i64.wrap ((IntKind.u64.wrap o.kind).tmod 9) = 7) :
    Calls Tryz.prog 11 #[.pointer (some ⟨V.vb, 0, none⟩), .pointer (some ⟨R.rb, 0, none⟩), .agg #[.int .i64 o.kind, .int .i64 o.at_, .int .u64 o.v, .int .i64 o.c.k, .int .i64 o.c.l, .int .i64 o.c.s, .int .u64 o.c.v, .int .i64 o.c.d0, .int .i64 o.c.d1, .int .i64 o.c.d2, .int .i64 o.c.d3, .int .i64 o.c.d4, .int .i64 o.c.m, .slice o.la o.ln o.lc, .slice o.na o.nn o.nc]] w fun e w' => SomeBool e ∧ StepPost w0 w V N L M R w' := by
  have HKD : Hid (∀ w, Calls Tryz.prog 29 #[.agg #[.int .i64 o.kind, .int .i64 o.at_, .int .u64 o.v, .int .i64 o.c.k, .int .i64 o.c.l, .int .i64 o.c.s, .int .u64 o.c.v, .int .i64 o.c.d0, .int .i64 o.c.d1, .int .i64 o.c.d2, .int .i64 o.c.d3, .int .i64 o.c.d4, .int .i64 o.c.m, .slice o.la o.ln o.lc, .slice o.na o.nn o.nc]] w fun e w' => e = .returned (.int .i64 7) ∧ Below w.heap.size w w') := fun w => kind_any o 7 w (by omega) hz1 hz2
  have HGN : Hid (w.heap.size ∉ both V R) := fun hm => by
    unfold both at hm
    rcases List.mem_append.1 hm with e | e
    · have := P0.view.all_lt _ (V.blocks_all _ e); omega
    · have := P0.ref.all_lt _ e; omega
  have HH : Hid (VopIn w0 o) := ho
  clear hz1 hz2 ho
  go_enter Tryz.func11, Tryz.ntmps11
  go_wp2_with fail
  obtain ⟨Y, hY, hX, hB, hl⟩ := box_new w o
  rw [hY]
  obtain ⟨G, hG⟩ : ∃ G, w.heap.size = G := ⟨_, rfl⟩
  refine Calls.mono (HKD.out _) ?_
  rintro e w2 ⟨rfl, hb⟩
  have HX2 : BoxAt w2 G o := by rw [← hG]; exact hX.later hl hb
  have P2 : Pair w0 w2 V S N L M R := (P0.later hB).later hb
  have HO2 : Only (both V R) w w2 := (Only.of_below hB).thenBelow hb hB.size
  rw [hG] at HGN ⊢
  have HGG : Hid (w.heap.size = G) := hG
  clear hY hX hB hl hb hG

  go_wp2_with fail
  refine (vreset_any V S N w2 P2.view).mono ?_
  rintro e w3 ⟨rfl, hv, hO⟩
  have hn : ∀ j ∈ (V.anew w2.heap.size).all, j ∈ V.all ∨ w2.heap.size ≤ j := fun j hj => by
    simp only [VLay.anew, VLay.all, VLay.blocks, List.mem_append, List.mem_cons, List.not_mem_nil, or_false, Option.mem_toList] at hj ⊢
    rcases hj with ((hj | hj | hj | hj) | hj) | hj
    · exact .inl (.inl (.inl (.inl hj)))
    · exact .inr (by omega)
    · exact .inr (by omega)
    · exact .inr (by omega)
    · exact .inl (.inl (.inr hj))
    · exact .inl (.inr hj)
  have P3 := P2.viewStep hv hO (by simp [VLay.all, VLay.blocks]) rfl hn
  have HO3 : Only (both V R) w w3 := HO2.trans (hO.mono (by simp [both, VLay.blocks]))
  clear hv hO
  go_wp2_with fail
  refine (rreset w0 R w3 P3.ref).mono ?_
  rintro e w4 ⟨R', rfl, hr, hrb, hbb, hnb, hO⟩
  have hn2 : ∀ j ∈ R'.blocks, j ∈ R.blocks ∨ w3.heap.size ≤ j := fun j hj => by
    simp only [RLay.blocks, List.mem_cons, List.not_mem_nil, or_false] at hj ⊢
    omega
  have P4 := P3.refStep hr hO hn2
  have HO4 : Only (both V R) w w4 := HO3.trans (only_r hO)
  clear hr hO
  go_wp2
  go_ret
  have hs2 := HO2.size
  have hs3 := HO3.size
  exact ⟨⟨_, rfl⟩, _, _, _, P4.mono (by omega), rfl, hrb, HO4, fun j hj => (hn j hj).imp id (by omega), fun j hj => (hn2 j hj).imp id (by omega)⟩

set_option maxHeartbeats 1000000 in
set_option maxRecDepth 100000 in
theorem step5 (w0 w : World) (V : VLay) (S : Vw) (N : Nat) (L : Lay) (M : Mem) (R : RLay) (o : Vop) (P0 : Pair w0 w V S N L M R) (ho : VopIn w0 o) (hN : N < 800000000) (hz1 : wrap64 ((IntKind.u64.wrap o.kind).tmod 9) = 5) (hz2 : IntKind.i64.wrap ((IntKind.u64.wrap o.kind).tmod 9) = 5) :
    Calls Tryz.prog 11 #[.pointer (some ⟨V.vb, 0, none⟩), .pointer (some ⟨R.rb, 0, none⟩), .agg #[.int .i64 o.kind, .int .i64 o.at_, .int .u64 o.v, .int .i64 o.c.k, .int .i64 o.c.l, .int .i64 o.c.s, .int .u64 o.c.v, .int .i64 o.c.d0, .int .i64 o.c.d1, .int .i64 o.c.d2, .int .i64 o.c.d3, .int .i64 o.c.d4, .int .i64 o.c.m, .slice o.la o.ln o.lc, .slice o.na o.nn o.nc]] w fun e w' => SomeBool e ∧ StepPost w0 w V N L M R w' := by
  have HKD : Hid (∀ w, Calls Tryz.prog 29 #[.agg #[.int .i64 o.kind, .int .i64 o.at_, .int .u64 o.v, .int .i64 o.c.k, .int .i64 o.c.l, .int .i64 o.c.s, .int .u64 o.c.v, .int .i64 o.c.d0, .int .i64 o.c.d1, .int .i64 o.c.d2, .int .i64 o.c.d3, .int .i64 o.c.d4, .int .i64 o.c.m, .slice o.la o.ln o.lc, .slice o.na o.nn o.nc]] w fun e w' => e = .returned (.int .i64 5) ∧ Below w.heap.size w w') := fun w => kind_any o 5 w (by omega) hz1 hz2
  have HGN : Hid (w.heap.size ∉ both V R) := fun hm => by
    unfold both at hm
    rcases List.mem_append.1 hm with e | e
    · have := P0.view.all_lt _ (V.blocks_all _ e); omega
    · have := P0.ref.all_lt _ e; omega
  have HH : Hid (VopIn w0 o) := ho
  clear hz1 hz2 ho
  go_enter Tryz.func11, Tryz.ntmps11
  go_wp2_with fail
  obtain ⟨Y, hY, hX, hB, hl⟩ := box_new w o
  rw [hY]
  obtain ⟨G, hG⟩ : ∃ G, w.heap.size = G := ⟨_, rfl⟩
  refine Calls.mono (HKD.out _) ?_
  rintro e w2 ⟨rfl, hb⟩
  have HX2 : BoxAt w2 G o := by rw [← hG]; exact hX.later hl hb
  have P2 : Pair w0 w2 V S N L M R := (P0.later hB).later hb
  have HO2 : Only (both V R) w w2 := (Only.of_below hB).thenBelow hb hB.size
  rw [hG] at HGN ⊢
  have HGG : Hid (w.heap.size = G) := hG
  clear hY hX hB hl hb hG
  have z14 := HX2.c14
  go_wp2_with fail
  have hi : IntsAt w2 o.na o.nn o.nf := HH.out.n.at_.later (Nat.le_refl _) P2.ref.bel
  have hnl : o.nn ≤ 9223372036854775807 := by have := HH.out.n.len; unfold maxLen at this; omega
  refine (vavoid_any V S N o.na o.na o.nn o.nc o.nn o.nc o.nf o.nf w2 P2.view hi HH.out.n.ok hnl HH.out.n.len hi HH.out.n.ok hnl HH.out.n.len).mono ?_
  rintro e w3 ⟨g1, g2, rfl, hg1, hg2, hv, hO⟩
  have hn : ∀ j ∈ (V.shun g1 g2).all, j ∈ V.all ∨ w2.heap.size ≤ j := fun j hj => by
    simp only [VLay.shun, VLay.all, VLay.blocks, List.mem_append, List.mem_cons, List.not_mem_nil, or_false, Option.mem_toList, Option.some.injEq] at hj ⊢
    rcases hj with (hj | hj) | hj
    · exact .inl (.inl (.inl hj))
    · exact .inr (by omega)
    · exact .inr (by omega)
  have P3 := P2.viewStep hv hO (by simp [VLay.all, VLay.blocks]) rfl hn
  have HO3 : Only (both V R) w w3 := HO2.trans (hO.mono (by simp [both, VLay.blocks]))
  have HX3 : BoxAt w3 G o := HX2.only (show Only (both V R) w2 w3 from hO.mono (by simp [both, VLay.blocks])) HGN.out
  clear hv hO z14
  have z14 := HX3.c14
  obtain ⟨a5, n5, q5, f5, d50, _⟩ := P3.ref.c50
  have e50 := P3.ref.fz 50
  have r1 := P3.ref.setAway 50 (.inl rfl) o.na o.nn o.nc o.nf HH.out.n.at_ hnl
  obtain ⟨a6, n6, q6, f6, d51, _⟩ := r1.c51
  have e51 := r1.fz 51
  have r2 := r1.setAway 51 (.inr rfl) o.na o.nn o.nc o.nf HH.out.n.at_ hnl
  have hO4 : Only R.blocks w3 ((w3.setCell ⟨R.rb, 50, none⟩ (.slice o.na o.nn o.nc)).setCell ⟨R.rb, 51, none⟩ (.slice o.na o.nn o.nc)) := ((Only.refl _ _).setCell (p := ⟨R.rb, 50, none⟩) (by simp [RLay.blocks]) _).setCell (p := ⟨R.rb, 51, none⟩) (by simp [RLay.blocks]) _
  have P4 := P3.refStep r2 hO4 (fun _ hj => .inl hj)
  have HO4 : Only (both V R) w _ := HO3.trans (only_r hO4)
  have z14b := (HX3.only ((Only.refl (both V R) w3).setCell (p := ⟨R.rb, 50, none⟩) (by simp [both, RLay.blocks]) (.slice o.na o.nn o.nc)) HGN.out).c14
  have HP4 : Hid _ := P4
  have HO4' : Hid _ := HO4
  clear r1 r2 hO4 P4 HO4
  go_wp2
  go_ret
  have hs2 := HO2.size
  exact ⟨⟨_, rfl⟩, _, _, _, HP4.out.mono (by omega), rfl, rfl, HO4'.out, fun j hj => (hn j hj).imp id (by omega), fun _ hj => .inl hj⟩

end Go.Proofs.YtomlbifplliakaaGreat
