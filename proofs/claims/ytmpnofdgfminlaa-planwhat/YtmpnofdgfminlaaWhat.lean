/- Proved: for every number, slice of words and number, 'PlanWhat' returns true and its arguments read afterwards as before. No condition. -/
import Derived.Test.YtmpnofdgfminlaaRows
import Derived.Test.YtmpnofdgfminlaaMem
import Derived.ProofKit
import Derived.OpenShut
import Derived.SizedLaws
import Derived.Deep.RegionHeld3
namespace Go.Proofs.Ytmpnofdgfminlaa.planWhat
open Go.ChangeShapes Go.WideShapes Go.ChangeAt Go.RowKit
set_option linter.unusedVariables false

theorem own : ownKnob Try.prog.godebug = none := by kernel_rfl
theorem laidOut : laidOutB Try.prog = true := by kernel_rfl

theorem bytes30 : Try.prog.bytesOf 30 = 8 := by kernel_rfl
theorem cell_block {w : World} {a : Addr} {v : Value} (h : w.cell? a = some v) : a.block < w.heap.size := by
  by_cases hb : a.block < w.heap.size
  · exact hb
  · have e : w.heap[a.block]? = none := Array.getElem?_eq_none (by omega)
    unfold World.cell? at h
    rw [e] at h
    simp at h
theorem uAt_of {w : World} {x : Addr} {len cap : Nat} {zs : List Int} (hl : len ≤ cap) (hz : zs.length = cap) (hc : ∀ i, i < zs.length → w.cell? (x.add i) = some (.int .u64 (zs.getD i 0))) :
    UAt w (some x) len fun j => zs.getD j 0 := by
  by_cases h0 : len = 0
  · exact .inl h0
  · obtain ⟨b, off, rfl, hcell⟩ := ints_at hc (by omega)
    exact .inr ⟨b, off, rfl, cell_block (hcell 0 (by omega)), fun j hj => hcell j (by omega)⟩

theorem rem_form (a : Int) : ∃ k : Nat, wrap64 ((IntKind.u64.wrap a).tmod 2825) = (k : Int) ∧ IntKind.i64.wrap ((IntKind.u64.wrap a).tmod 2825) = (k : Int) ∧ k ≤ 2824 := by
  refine ⟨((a % 18446744073709551616) % 2825).toNat, ?_, ?_, by omega⟩
  · rw [IntKind.wrap_u64, tmod_of_emod]
    unfold wrap64
    omega
  · rw [IntKind.wrap_u64, tmod_of_emod, IntKind.wrap_i64]
    omega

set_option maxHeartbeats 4000000 in
theorem walk (x : Int) (a : Option Addr) (len cap : Nat) (g : Nat → Int) (y : Int) (w : World) (_hx : -9223372036854775808 ≤ x ∧ x ≤ 9223372036854775807)
    (_gb : ∀ j, 0 ≤ g j ∧ g j ≤ 18446744073709551615) (hu : UAt w a len g) (lc : len ≤ cap) (hr : len * 8 ≤ 140737488351232) (_hy : -9223372036854775808 ≤ y ∧ y ≤ 9223372036854775807) :
    Calls Try.prog 3 #[.int .i64 x, .slice a len cap, .int .i64 y] w fun e w' => e = .returned (.bool true) ∧ Below w.heap.size w w' := by
  have HU : Hid (UAt w a len g) := hu
  clear _gb _hx _hy hu
  obtain ⟨i0, hi, hz0, hz1, hz2⟩ := info_parts Try.info30
  obtain ⟨m, hm, hm', hm2⟩ := rem_form y
  obtain ⟨L, hL⟩ : ∃ L : Nat, L = 2824 := ⟨_, rfl⟩
  have HL : Hid (L = 2824) := hL
  have hL1 : (100 : Int) ≤ (L : Int) := by omega
  have hL2 : (L : Int) ≤ 100000 := by omega
  have hL3 : 100 ≤ L := by omega
  have hmL : m ≤ L := by omega
  have hmL' : (m : Int) ≤ (L : Int) := by omega
  have hm0 : (0 : Int) ≤ (m : Int) := by omega
  clear hL hm2
  obtain ⟨K, hK⟩ : ∃ K, kindI x = K := ⟨_, rfl⟩
  obtain ⟨N, hN⟩ : ∃ N, numI x = N := ⟨_, rfl⟩
  have WA : Hid (∀ w, Calls Try.prog 9 #[.int .i64 x] w fun e w' => e = .returned (.tuple #[.int .i64 K, .int .i64 N]) ∧ w' = w) := by
    have e := fun w => what_any x w
    rw [hK, hN] at e
    exact e
  have WB : Hid (∀ w, Calls Try.prog 10 #[.int .i64 x] w fun e w' => e = .returned (.tuple #[.int .i64 K, .int .i64 N]) ∧ w' = w) := by
    have e := fun w => refWhat_any x w
    rw [hK, hN] at e
    exact e
  clear hK hN
  go_enter Try.func3, Try.ntmps3
  go_wp2_with fail
  refine (lives_any _).mono ?_
  rintro e w1 ⟨rfl, hb1⟩
  go_wp2_with fail
  refine Calls.mono (Hid.out WA _) ?_
  rintro e w' ⟨rfl, rfl⟩
  go_wp2_with fail
  refine Calls.mono (Hid.out WB _) ?_
  rintro e w' ⟨rfl, rfl⟩
  have hs1 := hb1.size
  go_wp2_with (at_make; refine wpList_make_full _ rfl _ _ 22 rfl w.heap.size 30 i0 (.int .u64 0) 1 Try.underlying22 hi hz0 hz1 _ _ _ _ L rfl rfl ?l1 ?l2 ?b2 ?b3 hs1 ?_)
  case l1 => have := HL.out; omega
  case l2 => have := HL.out; omega
  case b2 => rw [hz2]; omega
  case b3 => unfold maxLen; omega
  intro w2 hown hgrow
  have R2 : Hid (RowIs w2 w'.heap.size (fun _ => 0)) := by
    have e := made_row hown
    rw [HL.out] at e
    exact e
  have B2 : Below w.heap.size w w2 := hb1.grown hgrow hs1 (fun k h => by cases h)
  obtain ⟨G, hG⟩ : ∃ G, w'.heap.size = G := ⟨_, rfl⟩
  rw [hG] at R2 hs1 ⊢
  clear hown hgrow hb1 hG
  go_wp2_with fail
  refine (head_own _).mono ?_
  rintro e w4 ⟨rfl, hcells, hb4, hsz4⟩
  have R4 : Hid (RowIs w4 G _) := R2.out.later (Nat.le_refl _) hb4
  have B4 : Below w.heap.size w w4 := B2.trans (hb4.mono B2.size)
  obtain ⟨w5, hrun5, R5, B5⟩ := run_copy w4 G 0 _ headN (some ⟨w2.heap.size, 0, none⟩) 8 8 L 8 R4.out (.inr ⟨_, 0, rfl, hsz4, fun i hi => by rw [Nat.zero_add]; exact hcells.out i hi⟩) (by have := HL.out; omega) (by rw [HL.out]; rfl) w.heap.size w B4 hs1
  obtain ⟨f0, R⟩ : ∃ f : Nat → Int, Hid (RowIs w5 G f) := ⟨_, R5⟩
  clear hcells R5
  have BL0 : Hid (Below w.heap.size w w5) := B5
  go_wp2_with fail
  clear hrun5 R4 B4 hb4 hsz4 B5 R2 B2
  go_loopw [12] (fun i wr => ∃ (k : Nat) (f : Nat → Int), k ≤ 12 ∧ k ≤ len ∧ i = .int .i64 k ∧ Hid (RowIs wr G f) ∧ Hid (Below w.heap.size w wr)) (fun i _ => 12 - (intOf i).toNat)
  case atStart => exact ⟨0, f0, by omega, by omega, rfl, R, BL0⟩
  case round =>
    clear R BL0
    obtain ⟨k, f, hk, hkl, rfl, R, BL⟩ := hrel
    by_cases hlt : k < len
    · have hlt' : (k : Int) < (len : Int) := by omega
      by_cases h12 : k < 12
      · have h12' : (k : Int) < 12 := by omega
        have hkL : (k : Int) < (L : Int) := by omega
        obtain ⟨b, o, rfl, hbs, hcell⟩ := HU.out.resolve_left (by omega)
        have hc : wr.cell? ⟨b, o + k, none⟩ = some (.int .u64 (g k)) := (BL.out.cell (p := ⟨b, o + k, none⟩) hbs).trans (hcell k hlt)
        clear hcell
        have hz := R.out.frozen k
        have hcG := R.out.cell k (by omega)
        generalize g k = z at hc
        by_cases hz0 : z = 0
        · subst hz0
          go_wp2
          go_roundw
          case rel => exact ⟨k + 1, f, by omega, by omega, by go_num, R, BL⟩
          case measure => simp [intOf]; omega
        · have hz1 : (z == 0) = false := by simpa using hz0
          have hz2 : (z != 0) = true := by simpa using hz0
          go_wp2
          go_roundw
          case rel => exact ⟨k + 1, upd f k z, by omega, by omega, by go_num, R.out.set k z, BL.out.setCell (p := ⟨G, k, none⟩) hs1 _⟩
          case measure => simp [intOf]; omega
      · obtain rfl : k = 12 := by omega
        have B : Hid (∀ v, Below wr.heap.size wr v → Below w.heap.size w v) := fun v hv => BL.out.trans (hv.mono BL.out.size)
        have U1 : Hid (∀ v, Below wr.heap.size wr v → UAt v a len g) := fun v hv => HU.out.later (Nat.le_refl _) (BL.out.trans (hv.mono BL.out.size))
        have U2 : Hid (∀ v, Below wr.heap.size wr v → UAt v (some ⟨G, 0, none⟩) L f) := fun v hv => (R.out.later (Nat.le_refl _) hv).uAt L (by have := HL.out; omega)
        have U3 : Hid (∀ v, Below wr.heap.size wr v → UAt v (some ⟨G, 0, none⟩) m f) := fun v hv => (R.out.later (Nat.le_refl _) hv).uAt m (by have := HL.out; omega)
        have bel : Below wr.heap.size wr wr := Below.refl _ _
        clear R BL
        go_wp2_with fail
        go_region_held3 (fun _ : World => True) (trivial) (first
          | (go_at_call 12; refine Calls.mono (open_any x _) ?_; rintro e v1 ⟨rfl, rfl⟩; have bel := bel.drew)
          | (go_at_call 13; refine Calls.mono (refOpen_any x _) ?_; rintro e v2 ⟨rfl, rfl⟩)
          | (go_at_call_of 14 (Value.slice a len cap); refine Calls.mono (right_any a len cap g _ (Hid.out U1 _ bel) lc) ?_; rintro e v3 ⟨rfl, hb⟩; have bel := bel.trans (hb.mono bel.size); clear hb)
          | (go_at_call_of 15 (Value.slice a len cap); refine Calls.mono (refRight_any a len cap g _ (Hid.out U1 _ bel)) ?_; rintro e v4 ⟨rfl, rfl⟩)
          | (go_at_call_of 14 (Value.slice (some ⟨G, 0, none⟩) L L); refine Calls.mono (right_any (some ⟨G, 0, none⟩) L L f _ (Hid.out U2 _ bel) (Nat.le_refl _)) ?_; rintro e v5 ⟨rfl, hb⟩; have bel := bel.trans (hb.mono bel.size); clear hb)
          | (go_at_call_of 15 (Value.slice (some ⟨G, 0, none⟩) L L); refine Calls.mono (refRight_any (some ⟨G, 0, none⟩) L L f _ (Hid.out U2 _ bel)) ?_; rintro e v6 ⟨rfl, rfl⟩)
          | (go_at_call 14; refine Calls.mono (right_any (some ⟨G, 0, none⟩) m L f _ (Hid.out U3 _ bel) hmL) ?_; rintro e v7 ⟨rfl, hb⟩; have bel := bel.trans (hb.mono bel.size); clear hb)
          | (go_at_call 15; refine Calls.mono (refRight_any (some ⟨G, 0, none⟩) m L f _ (Hid.out U3 _ bel)) ?_; rintro e v8 ⟨rfl, rfl⟩))
        all_goals
          have BF : Hid (Below w.heap.size w _) := B.out _ bel
          go_wp2
          go_ret
          exact ⟨rfl, BF.out⟩
    · obtain rfl : k = len := by omega
      have B : Hid (∀ v, Below wr.heap.size wr v → Below w.heap.size w v) := fun v hv => BL.out.trans (hv.mono BL.out.size)
      have U1 : Hid (∀ v, Below wr.heap.size wr v → UAt v a k g) := fun v hv => HU.out.later (Nat.le_refl _) (BL.out.trans (hv.mono BL.out.size))
      have U2 : Hid (∀ v, Below wr.heap.size wr v → UAt v (some ⟨G, 0, none⟩) L f) := fun v hv => (R.out.later (Nat.le_refl _) hv).uAt L (by have := HL.out; omega)
      have U3 : Hid (∀ v, Below wr.heap.size wr v → UAt v (some ⟨G, 0, none⟩) m f) := fun v hv => (R.out.later (Nat.le_refl _) hv).uAt m (by have := HL.out; omega)
      have bel : Below wr.heap.size wr wr := Below.refl _ _
      clear R BL
      go_wp2_with fail
      go_region_held3 (fun _ : World => True) (trivial) (first
        | (go_at_call 12; refine Calls.mono (open_any x _) ?_; rintro e v1 ⟨rfl, rfl⟩; have bel := bel.drew)
        | (go_at_call 13; refine Calls.mono (refOpen_any x _) ?_; rintro e v2 ⟨rfl, rfl⟩)
        | (go_at_call_of 14 (Value.slice a k cap); refine Calls.mono (right_any a k cap g _ (Hid.out U1 _ bel) lc) ?_; rintro e v3 ⟨rfl, hb⟩; have bel := bel.trans (hb.mono bel.size); clear hb)
        | (go_at_call_of 15 (Value.slice a k cap); refine Calls.mono (refRight_any a k cap g _ (Hid.out U1 _ bel)) ?_; rintro e v4 ⟨rfl, rfl⟩)
        | (go_at_call_of 14 (Value.slice (some ⟨G, 0, none⟩) L L); refine Calls.mono (right_any (some ⟨G, 0, none⟩) L L f _ (Hid.out U2 _ bel) (Nat.le_refl _)) ?_; rintro e v5 ⟨rfl, hb⟩; have bel := bel.trans (hb.mono bel.size); clear hb)
        | (go_at_call_of 15 (Value.slice (some ⟨G, 0, none⟩) L L); refine Calls.mono (refRight_any (some ⟨G, 0, none⟩) L L f _ (Hid.out U2 _ bel)) ?_; rintro e v6 ⟨rfl, rfl⟩)
        | (go_at_call 14; refine Calls.mono (right_any (some ⟨G, 0, none⟩) m L f _ (Hid.out U3 _ bel) hmL) ?_; rintro e v7 ⟨rfl, hb⟩; have bel := bel.trans (hb.mono bel.size); clear hb)
        | (go_at_call 15; refine Calls.mono (refRight_any (some ⟨G, 0, none⟩) m L f _ (Hid.out U3 _ bel)) ?_; rintro e v8 ⟨rfl, rfl⟩))
      all_goals
        have BF : Hid (Below w.heap.size w _) := B.out _ bel
        go_wp2
        go_ret
        exact ⟨rfl, BF.out⟩

set_option maxRecDepth 100000 in
theorem lifted (os : Os) (started : os.Started) (H : Type) (enc : TypeId × Value → H) :
    ReturnsInHanded {} Try.checked os 3 .any (Rows.planWhatSpec.pre6 enc Try.prog Try.f3 Rows.planWhatRow.domain false) (Rows.planWhatSpec.post enc Try.prog Try.f3 false true false false) := by
  refine returnsInHanded_of_change_sized (C := Try.checked) own started (by kernel_rfl) Try.func3
    (ChangeSpec.witness6 (enc := enc) (C := Try.checked) false ⟨#[], #[.int .i64 0, .slice none 0 0, .int .i64 0], []⟩ 8 (by kernel_rfl) (by kernel_rfl) (by kernel_rfl) (by kernel_rfl)) ?_
  intro W base args ds gs before hval0 hW hcnd hsz0 _
  have hval : ∀ (j : Nat) t v, Try.f3.params[j]? = some t → args[j]? = some v → Value.okWide Try.prog W .any base t v := hval0
  have hW' := hW
  obtain ⟨p, q, hA0, hV, rfl, hfz, hnd⟩ := hW
  have hA : DataW.TrodAll enc Try.prog W 0 (fun _ => true) true Try.f3.params.toList args.toList ds p := hA0
  have hsz : (DataW.weightsEach Try.prog (Try.f3.params.toList ++ Rows.planWhatSpec.plain.varTypes Try.prog) (ds ++ gs)).all (· ≤ reachBytes) = true := hsz0
  rw [Try.params3] at hA hval hsz
  obtain ⟨v0, vs0, d0, ds0, p0, q0, hargs, rfl, rfl, h0, r0⟩ := trodAll_cons hA
  obtain ⟨v1, vs1, d1, ds1, p1, q1, rfl, rfl, rfl, h1, r1⟩ := trodAll_cons r0
  obtain ⟨v2, vs2, d2, ds2, p2, q2, rfl, rfl, rfl, h2, r2⟩ := trodAll_cons r1
  obtain ⟨rfl, rfl, rfl⟩ := trodAll_nil r2
  obtain rfl : args = #[v0, v1, v2] := by cases args; simp_all
  obtain ⟨rfl, rfl⟩ := trodVars_none hV
  obtain ⟨a0, rfl, rfl, rfl, w0⟩ := open_int Try.underlying3 (hval 0 3 v0 rfl rfl) h0
  obtain ⟨a1, len1, cap1, rfl⟩ := okWide_slice Try.underlying22 (hval 1 22 v1 rfl rfl)
  have k1 := h1
  have lt1 : ∀ x ∈ p1, x.block < W.heap.size := by obtain ⟨m, hm⟩ := k1; exact DataW.trod_lt m _ _ _ hm
  obtain ⟨g1, gb1, w1, lc1, hr1⟩ : ∃ g : Nat → Int, (∀ j, 0 ≤ g j ∧ g j ≤ 18446744073709551615) ∧ UAt W a1 len1 g ∧ len1 ≤ cap1 ∧ len1 * 8 ≤ 140737488351232 := by
    obtain ⟨fuel, hf⟩ := h1
    rcases open_ints Try.underlying22 Try.underlying30 (by kernel_rfl) hf with ⟨hcs, _⟩ | ⟨x, l, c, zs, hcs, _, hl, hm, hz, hx, hcell, hwz⟩
    · simp [Value.cells] at hcs
      obtain ⟨rfl, rfl, rfl⟩ := hcs
      exact ⟨fun _ => 0, fun _ => by simp, .inl rfl, by omega, by omega⟩
    · simp [Value.cells] at hcs
      obtain ⟨rfl, rfl, rfl⟩ := hcs
      simp only [Prod.mk.injEq] at hx
      have hd : d1 = _ := hx.1
      have hz' : zs.length = cap1 := by simpa using hz
      have hr : len1 * 8 ≤ 140737488351232 := by
        rw [hd] at hsz
        have := sized_slice hsz (j := 1) (t := 22) (e := 30) rfl rfl Try.underlying22
        rw [bytes30] at this
        simp only [lits, List.length_map, List.length_take, List.length_drop, reachBytes] at this
        omega
      refine ⟨fun j => zs.getD j 0, fun j => ?_, uAt_of hl hz' hcell, hl, hr⟩
      have := range_u64 hwz j
      rw [← List.getD_eq_getElem?_getD] at this
      exact this
  obtain ⟨a2, rfl, rfl, rfl, w2⟩ := open_int Try.underlying3 (hval 2 3 v2 rfl rfl) h2
  clear hA0 hval0
  refine (walk a0 a1 len1 cap1 g1 a2 W (bounds_i64 w0) gb1 w1 lc1 hr1 (bounds_i64 w2)).mono fun e W' ⟨he, bel⟩ => ?_
  subst he
  exact ⟨_, rfl, _, _, _, [], _, [], hW', trodAll_mk1 (shut_bool Try.underlying4 _), (trodAll_cons_mk (shut_int Try.underlying3 w0) (trodAll_cons_mk (Below.trod laidOut (by kernel_rfl) (of_decide_eq_true (by kernel_rfl)) k1 bel lt1) (trodAll_cons_mk (shut_int Try.underlying3 w2) trodAll_mk0))), rfl, bel.frame _, fun h => by cases h⟩

theorem over : Rows.planWhatRow.holds Try.pinned (OpenSpec.ofChange Rows.planWhatSpec) :=
  OpenClaim.holds_of_wide 3 Try.f3 rfl rfl rfl rfl rfl rfl rfl ⟨rfl, rfl, rfl, rfl, rfl⟩ rfl rfl rfl rfl rfl (by kernel_rfl) Try.func3 (by kernel_rfl)
    (of_decide_eq_true (by kernel_rfl)) (by unfold Func.isWrapper; first | (rw [if_pos (by decide +kernel)]; kernel_rfl) | (rw [if_neg (by decide +kernel)]; exact ⟨rfl, rfl⟩))
    (fun os started H enc _ => lifted os started H enc)

theorem proved : Rows.PlanWhatSaid := over
#print axioms proved
end Go.Proofs.Ytmpnofdgfminlaa.planWhat
