/- The step that only asks; a step of whichever kind. -/
import Derived.Test.YtomlbifplliakaaGreatS3
import Derived.Test.YtomlbifplliakaaGreatS4
import Derived.Test.YtomlbifplliakaaGreatS5
import Derived.BigQuiet
import Derived.Deep.RegionHeld3
namespace Go.Proofs.YtomlbifplliakaaGreat
open Go.RowKit Go.Maps Go.ChangeMaps

set_option linter.unusedVariables false

set_option maxHeartbeats 1000000 in
theorem has_out (a : Option Addr) (n c : Nat) (f : Nat → Int) (k : Int) (w : World) (h : IntsAt w a n f) (hn : n ≤ 9223372036854775807) :
    Calls Tryz.prog 42 #[.slice a n c, .int .i64 k] w fun e w' => e = .returned (.bool (namedI f n k)) ∧ w' = w := by
  have HI : Hid (IntsAt w a n f) := h
  obtain ⟨B, hB⟩ : ∃ B, namedI f n k = B := ⟨_, rfl⟩
  have HB : Hid (namedI f n k = B) := hB
  rw [hB]
  clear h hB
  go_enter Tryz.func42, Tryz.ntmps42
  go_wp2
  go_loop [5] (fun i => ∃ j : Nat, j ≤ n ∧ i = .int .i64 j ∧ Hid (∀ q, q < j → f q ≠ k)) (fun i => n - (intOf i).toNat)
  case atStart => exact ⟨0, Nat.zero_le _, rfl, fun q hq => absurd hq (Nat.not_lt_zero q)⟩
  case round =>
    obtain ⟨j, hj, rfl, HQ⟩ := hrel
    by_cases hlt : j < n
    · obtain ⟨b, o, rfl, hbl, hc⟩ := HI.out.resolve_left (by omega)
      have x1 := hc j hlt
      have hb : (j : Int) < (n : Int) := by omega
      obtain ⟨X, hX⟩ : ∃ X, f j = X := ⟨_, rfl⟩
      rw [hX] at x1
      have KX : Hid (f j = X) := hX
      clear hX hc
      by_cases e : X = k
      · subst e
        go_wp2
        go_ret
        refine ⟨ret_bool ?_, rfl⟩
        rw [← HB.out]
        symm
        unfold namedI
        exact decide_eq_true ⟨j, hlt, KX.out⟩
      · have e1 : (X == k) = false := by simpa using e
        have HE : Hid (¬ X = k) := e
        clear e
        go_wp2
        go_round
        case rel => exact ⟨j + 1, by omega, by go_num, fun q hq => by
          by_cases e : q = j
          · subst e; rw [KX.out]; exact HE.out
          · exact HQ.out q (by omega)⟩
        case measure => simp [intOf]; omega
    · obtain rfl : j = n := by omega
      go_wp2
      go_ret
      refine ⟨ret_bool ?_, rfl⟩
      rw [← HB.out]
      symm
      unfold namedI
      rw [decide_eq_false_iff_not]
      rintro ⟨q, hq, e⟩
      exact HQ.out q hq e

theorem rfresh_out (w0 : World) (R : RLay) (k : Int) (w : World) (h : RefIs w0 w R) :
    ∃ b, ∀ q, Calls Tryz.prog 40 #[.pointer (some ⟨R.rb, 0, none⟩), .int .i64 k] (w.drewN q) fun e w' => e = .returned (.bool b) ∧ w' = w.drewN q := by
  have c0 := h.c0
  have c1 := h.c1
  obtain ⟨L, hL⟩ : ∃ L : Nat, 2824 = L := ⟨_, rfl⟩
  rw [hL] at c0 c1
  obtain ⟨a, n, c, f, c50, hi, hn⟩ := h.c50
  have HI : ∀ q, IntsAt (w.drewN q) a n f := fun q => hi
  by_cases hk : 0 ≤ k ∧ k < 96
  · obtain ⟨j, rfl⟩ : ∃ j : Nat, k = j := ⟨k.toNat, by omega⟩
    have hj : (j : Int) < 96 := by omega
    have hjL : 200 + (j : Int) < (L : Int) := by omega
    obtain ⟨x, hx, _⟩ := h.base.cell (200 + j) (by omega)
    obtain ⟨y, hy, _⟩ := h.now.cell (200 + j) (by omega)
    have HH : Hid (∀ q, Calls Tryz.prog 42 #[.slice a n c, .int .i64 (j : Int)] (w.drewN q) fun e w' => e = .returned (.bool (namedI f n j)) ∧ w' = w.drewN q) := fun q => has_out a n c f j _ (HI q) hn
    clear hk hL h hi HI
    by_cases hx0 : x = 0
    · by_cases hy0 : y = 0
      · subst hx0 hy0
        obtain ⟨B, hB⟩ : ∃ B, namedI f n j = B := ⟨_, rfl⟩
        rw [hB] at HH
        clear hB
        refine ⟨!B, fun q => ?_⟩
        have d0 : (w.drewN q).cell? _ = _ := c0
        have d1 : (w.drewN q).cell? _ = _ := c1
        have d2 : (w.drewN q).cell? _ = _ := c50
        have d3 : (w.drewN q).cell? _ = _ := hx
        have d4 : (w.drewN q).cell? _ = _ := hy
        obtain ⟨W, hW⟩ : ∃ W, w.drewN q = W := ⟨_, rfl⟩
        have HQ := HH.out q
        rw [hW] at d0 d1 d2 d3 d4 HQ ⊢
        have HQ' : Hid _ := HQ
        clear hW c0 c1 c50 hx hy HQ HH
        go_enter Tryz.func40, Tryz.ntmps40
        go_wp2_with fail
        refine Calls.mono (Hid.out HQ') ?_
        rintro e w' ⟨rfl, hw⟩
        obtain rfl := hw.symm
        go_wp2
        go_ret
        exact ⟨rfl, rfl⟩
      · have e1 : (y == 0) = false := by simpa using hy0
        subst hx0
        refine ⟨false, fun q => ?_⟩
        have d0 : (w.drewN q).cell? _ = _ := c0
        have d1 : (w.drewN q).cell? _ = _ := c1
        have d3 : (w.drewN q).cell? _ = _ := hx
        have d4 : (w.drewN q).cell? _ = _ := hy
        obtain ⟨W, hW⟩ : ∃ W, w.drewN q = W := ⟨_, rfl⟩
        rw [hW] at d0 d1 d3 d4 ⊢
        clear hW c0 c1 c50 hx hy HH hy0
        go_enter Tryz.func40, Tryz.ntmps40
        go_wp2
        go_ret
        exact ⟨rfl, rfl⟩
    · have e1 : (x == 0) = false := by simpa using hx0
      refine ⟨false, fun q => ?_⟩
      have d0 : (w.drewN q).cell? _ = _ := c0
      have d3 : (w.drewN q).cell? _ = _ := hx
      obtain ⟨W, hW⟩ : ∃ W, w.drewN q = W := ⟨_, rfl⟩
      rw [hW] at d0 d3 ⊢
      clear hW c0 c1 c50 hx hy HH hx0
      go_enter Tryz.func40, Tryz.ntmps40
      go_wp2
      go_ret
      exact ⟨rfl, rfl⟩
  · refine ⟨false, fun q => ?_⟩
    obtain ⟨W, hW⟩ : ∃ W, w.drewN q = W := ⟨_, rfl⟩
    rw [hW]
    by_cases h0 : 0 ≤ k
    · have h1 : ¬ k < 96 := by omega
      clear hk hL h
      go_enter Tryz.func40, Tryz.ntmps40
      go_wp2
      go_ret
      exact ⟨rfl, rfl⟩
    · clear hk hL h
      go_enter Tryz.func40, Tryz.ntmps40
      go_wp2
      go_ret
      exact ⟨rfl, rfl⟩
theorem Pair.drewN {w0 w : World} {V : VLay} {S : Vw} {N : Nat} {L : Lay} {M : Mem} {R : RLay} (h : Pair w0 w V S N L M R) (q : Nat) : Pair w0 (w.drewN q) V S N L M R :=
  ⟨h.view.of_blocks (fun _ _ _ => rfl), h.mem.of_blocks (fun _ _ _ => rfl), h.mb, h.ref.of_blocks (below_drewN h.ref.bel q) (fun _ _ _ => rfl), h.vl, h.rv, h.lowV, h.lowL⟩
theorem Only.drewN {X : List Nat} {a b : World} (h : Only X a b) (q : Nat) : Only X a (b.drewN q) := ⟨h.os, h.tape, h.output, h.size, h.block⟩
theorem vfresh_out (V : VLay) (S : Vw) (N : Nat) (L : Lay) (M : Mem) (k : Int) : ∃ b, ∀ w, ViewIs w V S N → MemIs w L M → V.mb = L.mb → Calls Tryz.prog 22 #[.pointer (some ⟨V.vb, 0, none⟩), .int .i64 k] w fun e w' => e = .returned (.bool b) ∧ w' = w := by
  by_cases hk : 0 ≤ k ∧ k < 96
  · exact ⟨_, fun w h hm hv => vfresh_yes V S N L M k w h hm hv hk.1 hk.2⟩
  · exact ⟨_, fun w h hm hv => vfresh_no V S N k w h (by omega)⟩

set_option maxHeartbeats 4000000 in
set_option maxRecDepth 100000 in
theorem step6 (w0 w : World) (V : VLay) (S : Vw) (N : Nat) (L : Lay) (M : Mem) (R : RLay) (o : Vop) (P0 : Pair w0 w V S N L M R) (ho : VopIn w0 o) (hN : N < 800000000) (hz1 : wrap64 ((IntKind.u64.wrap o.kind).tmod 9) = 6) (hz2 : IntKind.i64.wrap ((IntKind.u64.wrap o.kind).tmod 9) = 6) :
    Calls Tryz.prog 11 #[.pointer (some ⟨V.vb, 0, none⟩), .pointer (some ⟨R.rb, 0, none⟩), .agg #[.int .i64 o.kind, .int .i64 o.at_, .int .u64 o.v, .int .i64 o.c.k, .int .i64 o.c.l, .int .i64 o.c.s, .int .u64 o.c.v, .int .i64 o.c.d0, .int .i64 o.c.d1, .int .i64 o.c.d2, .int .i64 o.c.d3, .int .i64 o.c.d4, .int .i64 o.c.m, .slice o.la o.ln o.lc, .slice o.na o.nn o.nc]] w fun e w' => SomeBool e ∧ StepPost w0 w V N L M R w' := by
  have HKD : Hid (∀ w, Calls Tryz.prog 29 #[.agg #[.int .i64 o.kind, .int .i64 o.at_, .int .u64 o.v, .int .i64 o.c.k, .int .i64 o.c.l, .int .i64 o.c.s, .int .u64 o.c.v, .int .i64 o.c.d0, .int .i64 o.c.d1, .int .i64 o.c.d2, .int .i64 o.c.d3, .int .i64 o.c.d4, .int .i64 o.c.m, .slice o.la o.ln o.lc, .slice o.na o.nn o.nc]] w fun e w' => e = .returned (.int .i64 6) ∧ Below w.heap.size w w') := fun w => kind_any o 6 w (by omega) hz1 hz2
  have HGN : Hid (w.heap.size ∉ both V R) := fun hm => by
    unfold both at hm
    rcases List.mem_append.1 hm with e | e
    · have := P0.view.all_lt _ (V.blocks_all _ e); omega
    · have := P0.ref.all_lt _ e; omega
  have HH : Hid (VopIn w0 o) := ho
  clear hz1 hz2 ho
  go_enter Tryz.func11, Tryz.ntmps11
  go_wp2_with fail
  obtain ⟨Y, hY, hX, hB, hl⟩ := box_new w o
  rw [hY]
  obtain ⟨G, hG⟩ : ∃ G, w.heap.size = G := ⟨_, rfl⟩
  refine Calls.mono (HKD.out _) ?_
  rintro e w2 ⟨rfl, hb⟩
  have HX2 : BoxAt w2 G o := by rw [← hG]; exact hX.later hl hb
  have P2 : Pair w0 w2 V S N L M R := (P0.later hB).later hb
  have HO2 : Only (both V R) w w2 := (Only.of_below hB).thenBelow hb hB.size
  rw [hG] at HGN ⊢
  have HGG : Hid (w.heap.size = G) := hG
  clear hY hX hB hl hb hG
  have z1 := HX2.c1
  obtain ⟨b1, G1⟩ := vfresh_out V S N L M o.at_
  obtain ⟨b2, G2⟩ := rfresh_out w0 R o.at_ w2 P2.ref
  obtain ⟨a5, n5, q5, f5, d50, i5, l5⟩ := P2.ref.c50
  obtain ⟨a6, n6, q6, f6, d51, i6, l6⟩ := P2.ref.c51
  obtain ⟨b3, hb3⟩ : ∃ b, S.away o.at_ = b := ⟨_, rfl⟩
  obtain ⟨b5, hb5⟩ : ∃ b, S.awayN o.at_ = b := ⟨_, rfl⟩
  obtain ⟨b4, hb4⟩ : ∃ b, namedI f5 n5 o.at_ = b := ⟨_, rfl⟩
  obtain ⟨b6, hb6⟩ : ∃ b, namedI f6 n6 o.at_ = b := ⟨_, rfl⟩
  have F1 : Hid (∀ q, Calls Tryz.prog 22 #[.pointer (some ⟨V.vb, 0, none⟩), .int .i64 o.at_] (w2.drewN q) fun e w' => e = .returned (.bool b1) ∧ w' = w2.drewN q) := fun q => G1 _ (P2.drewN q).view (P2.drewN q).mem P2.mb
  have F2 : Hid _ := G2
  have F3 : Hid (∀ q, Calls Tryz.prog 41 #[.pointer (some ⟨V.vb, 0, none⟩), .int .i64 o.at_] (w2.drewN q) fun e w' => e = .returned (.bool b3) ∧ w' = w2.drewN q) := fun q => by rw [← hb3]; exact away_any V S N o.at_ _ (P2.drewN q).view HH.out.at_
  have F5 : Hid (∀ q, Calls Tryz.prog 43 #[.pointer (some ⟨V.vb, 0, none⟩), .int .i64 o.at_] (w2.drewN q) fun e w' => e = .returned (.bool b5) ∧ w' = w2.drewN q) := fun q => by rw [← hb5]; exact awayN_any V S N o.at_ _ (P2.drewN q).view HH.out.at_
  have F4 : Hid (∀ q, Calls Tryz.prog 42 #[.slice a5 n5 q5, .int .i64 o.at_] (w2.drewN q) fun e w' => e = .returned (.bool b4) ∧ w' = w2.drewN q) := fun q => by rw [← hb4]; exact has_out a5 n5 q5 f5 o.at_ _ i5 l5
  have F6 : Hid (∀ q, Calls Tryz.prog 42 #[.slice a6 n6 q6, .int .i64 o.at_] (w2.drewN q) fun e w' => e = .returned (.bool b6) ∧ w' = w2.drewN q) := fun q => by rw [← hb6]; exact has_out a6 n6 q6 f6 o.at_ _ i6 l6
  clear G1 G2 i5 l5 i6 l6 hb3 hb4 hb5 hb6
  obtain ⟨y1, hy1⟩ : ∃ y, (b1 == b2) = y := ⟨_, rfl⟩
  obtain ⟨y2, hy2⟩ : ∃ y, (b3 == b4) = y := ⟨_, rfl⟩
  cases y1
  · clear hy2
    go_wp2_with fail
    go_quiet (first
      | (go_at_call 22; refine (Hid.out F1 _).mono fun _ _ h => ⟨h.1, _, h.2⟩)
      | (go_at_call 40; refine (Hid.out F2 _).mono fun _ _ h => ⟨h.1, _, h.2⟩)
      | (go_at_call 41; refine (Hid.out F3 _).mono fun _ _ h => ⟨h.1, _, h.2⟩)
      | (go_at_call 43; refine (Hid.out F5 _).mono fun _ _ h => ⟨h.1, _, h.2⟩)
      | (go_at_call_of 42 (Value.slice a5 n5 q5); refine (Hid.out F4 _).mono fun _ _ h => ⟨h.1, _, h.2⟩)
      | (go_at_call_of 42 (Value.slice a6 n6 q6); refine (Hid.out F6 _).mono fun _ _ h => ⟨h.1, _, h.2⟩))
    go_wp2
    go_ret
    exact ⟨⟨_, rfl⟩, _, _, _, (P2.drewN _).mono (by omega), rfl, rfl, HO2.drewN _, fun _ hj => .inl hj, fun _ hj => .inl hj⟩
  · cases y2
    · skip
      go_wp2_with fail
      go_quiet (first
        | (go_at_call 22; refine (Hid.out F1 _).mono fun _ _ h => ⟨h.1, _, h.2⟩)
        | (go_at_call 40; refine (Hid.out F2 _).mono fun _ _ h => ⟨h.1, _, h.2⟩)
        | (go_at_call 41; refine (Hid.out F3 _).mono fun _ _ h => ⟨h.1, _, h.2⟩)
        | (go_at_call 43; refine (Hid.out F5 _).mono fun _ _ h => ⟨h.1, _, h.2⟩)
        | (go_at_call_of 42 (Value.slice a5 n5 q5); refine (Hid.out F4 _).mono fun _ _ h => ⟨h.1, _, h.2⟩)
        | (go_at_call_of 42 (Value.slice a6 n6 q6); refine (Hid.out F6 _).mono fun _ _ h => ⟨h.1, _, h.2⟩))
      go_wp2
      go_ret
      exact ⟨⟨_, rfl⟩, _, _, _, (P2.drewN _).mono (by omega), rfl, rfl, HO2.drewN _, fun _ hj => .inl hj, fun _ hj => .inl hj⟩
    · skip
      go_wp2_with fail
      go_quiet (first
        | (go_at_call 22; refine (Hid.out F1 _).mono fun _ _ h => ⟨h.1, _, h.2⟩)
        | (go_at_call 40; refine (Hid.out F2 _).mono fun _ _ h => ⟨h.1, _, h.2⟩)
        | (go_at_call 41; refine (Hid.out F3 _).mono fun _ _ h => ⟨h.1, _, h.2⟩)
        | (go_at_call 43; refine (Hid.out F5 _).mono fun _ _ h => ⟨h.1, _, h.2⟩)
        | (go_at_call_of 42 (Value.slice a5 n5 q5); refine (Hid.out F4 _).mono fun _ _ h => ⟨h.1, _, h.2⟩)
        | (go_at_call_of 42 (Value.slice a6 n6 q6); refine (Hid.out F6 _).mono fun _ _ h => ⟨h.1, _, h.2⟩))
      go_wp2
      go_ret
      exact ⟨⟨_, rfl⟩, _, _, _, (P2.drewN _).mono (by omega), rfl, rfl, HO2.drewN _, fun _ hj => .inl hj, fun _ hj => .inl hj⟩

end Go.Proofs.YtomlbifplliakaaGreat
