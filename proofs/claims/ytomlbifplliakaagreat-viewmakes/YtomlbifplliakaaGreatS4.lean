/- The last steps of both views. -/
import Derived.Test.YtomlbifplliakaaGreatS2
import Derived.Deep.RegionHeld3
namespace Go.Proofs.YtomlbifplliakaaGreat
open Go.RowKit Go.Maps Go.ChangeMaps

set_option linter.unusedVariables false

theorem card_stored (w : World) (k l s v d0 d1 d2 d3 d4 m : Int) : ∃ W : World, w.alloc (.cells #[.int .i64 k, .int .i64 l, .int .i64 s, .int .u64 v, .int .i64 d0, .int .i64 d1, .int .i64 d2, .int .i64 d3, .int .i64 d4, .int .i64 m] 38) = W ∧ Cd.Ten W w.heap.size k l s v d0 d1 d2 d3 d4 m ∧ Below w.heap.size w W ∧ w.heap.size < W.heap.size :=
  ⟨_, rfl, Cd.ten_alloc w k l s v d0 d1 d2 d3 d4 m, (Below.refl _ _).alloc (Nat.le_refl _) _, by simp⟩

set_option maxHeartbeats 1000000 in
set_option maxRecDepth 100000 in
theorem step3 (w0 w : World) (V : VLay) (S : Vw) (N : Nat) (L : Lay) (M : Mem) (R : RLay) (o : Vop) (P0 : Pair w0 w V S N L M R) (ho : VopIn w0 o) (hN : N < 800000000) (hz1 : wrap64 ((IntKind.u64.wrap o.kind).tmod 9) = 3) (hz2 : IntKind.i64.wrap ((IntKind.u64.wrap o.kind).tmod 9) = 3) :
    Calls Tryz.prog 11 #[.pointer (some ⟨V.vb, 0, none⟩), .pointer (some ⟨R.rb, 0, none⟩), .agg #[.int .i64 o.kind, .int .i64 o.at_, .int .u64 o.v, .int .i64 o.c.k, .int .i64 o.c.l, .int .i64 o.c.s, .int .u64 o.c.v, .int .i64 o.c.d0, .int .i64 o.c.d1, .int .i64 o.c.d2, .int .i64 o.c.d3, .int .i64 o.c.d4, .int .i64 o.c.m, .slice o.la o.ln o.lc, .slice o.na o.nn o.nc]] w fun e w' => SomeBool e ∧ StepPost w0 w V N L M R w' := by
  have HKD : Hid (∀ w, Calls Tryz.prog 29 #[.agg #[.int .i64 o.kind, .int .i64 o.at_, .int .u64 o.v, .int .i64 o.c.k, .int .i64 o.c.l, .int .i64 o.c.s, .int .u64 o.c.v, .int .i64 o.c.d0, .int .i64 o.c.d1, .int .i64 o.c.d2, .int .i64 o.c.d3, .int .i64 o.c.d4, .int .i64 o.c.m, .slice o.la o.ln o.lc, .slice o.na o.nn o.nc]] w fun e w' => e = .returned (.int .i64 3) ∧ Below w.heap.size w w') := fun w => kind_any o 3 w (by omega) hz1 hz2
  have HGN : Hid (w.heap.size ∉ both V R) := fun hm => by
    unfold both at hm
    rcases List.mem_append.1 hm with e | e
    · have := P0.view.all_lt _ (V.blocks_all _ e); omega
    · have := P0.ref.all_lt _ e; omega
  have HH : Hid (VopIn w0 o) := ho
  clear hz1 hz2 ho
  go_enter Tryz.func11, Tryz.ntmps11
  go_wp2_with fail
  obtain ⟨Y, hY, hX, hB, hl⟩ := box_new w o
  rw [hY]
  obtain ⟨G, hG⟩ : ∃ G, w.heap.size = G := ⟨_, rfl⟩
  refine Calls.mono (HKD.out _) ?_
  rintro e w2 ⟨rfl, hb⟩
  have HX2 : BoxAt w2 G o := by rw [← hG]; exact hX.later hl hb
  have P2 : Pair w0 w2 V S N L M R := (P0.later hB).later hb
  have HO2 : Only (both V R) w w2 := (Only.of_below hB).thenBelow hb hB.size
  rw [hG] at HGN ⊢
  have HGG : Hid (w.heap.size = G) := hG
  clear hY hX hB hl hb hG
  have z1 := HX2.c1
  go_wp2_with fail
  refine (pv_block w0 w2 V S N L M R o.at_ P2).mono ?_
  rintro e w3 ⟨⟨a1, n1, q1, f1, x1, rfl, u1, l1⟩, P3, O3⟩
  have HX3 := HX2.only O3 HGN.out
  have y1 := HX3.c1
  have HO3 := HO2.trans O3
  have U1 : Hid (UAt w3 a1 n1 f1) := u1
  clear u1 O3
  go_wp2_with fail
  refine (pr_block w0 w3 V S N L M R o.at_ P3).mono ?_
  rintro e w4 ⟨⟨a2, n2, q2, f2, x2, rfl, u2, l2⟩, P4, b4⟩
  have HO4 := HO3.thenBelow b4 HO3.size
  have U2 : Hid (UAt w4 a2 n2 f2) := u2
  have U1' : Hid (UAt w4 a1 n1 f1) := U1.out.later (Nat.le_refl _) b4
  clear u2 b4
  go_wp2_with fail
  refine (same_words a1 a2 n1 q1 n2 q2 f1 f2 w4 U1'.out U2.out l1).mono ?_
  rintro e w5 ⟨⟨bb, rfl⟩, b5⟩
  have P := P4.later b5
  have HO := HO4.thenBelow b5 HO4.size
  clear b5
  cases bb
  all_goals
    go_wp2
    go_ret
    exact ⟨⟨_, rfl⟩, _, _, _, P.mono (by omega), rfl, rfl, HO, fun _ hj => .inl hj, fun _ hj => .inl hj⟩

end Go.Proofs.YtomlbifplliakaaGreat
