/- BodyNone: a file that is cut to nothing has no blocks and leaves all free, and what it grows by then is 0. No condition. -/
import Derived.Test.YtdjnkibnnjobpaaGreatBdZb
import Derived.Test.YtdjnkibnnjobpaaGreatRows
import Derived.Test.YtdjnkibnnjobpaaGreatChecked
namespace Go.Proofs.YtdjnkibnnjobpaaGreat.bodyNone
open Go.RowKit Go.Maps Go.ChangeMaps Go.ChangeShapes Go.WideShapes Go.ChangeAt Go.Deep Go.Joins
set_option linter.unusedVariables false

set_option maxHeartbeats 4000000 in
set_option maxRecDepth 100000 in
theorem walk (aa : Option Addr) (ac : Nat) (ops : List Bop) (size : Int) (w : World) (ha : BopsIn w aa ac ops) (hsz : -9223372036854775808 ≤ size ∧ size ≤ 9223372036854775807) :
    Calls Tryz.prog 5 #[.slice aa ops.length ac, .int .i64 size] w fun e w' => e = .returned (.bool true) ∧ Below w.heap.size w w' := by
  have HA : Hid (BopsIn w aa ac (ops.take 50)) := ha.take 50
  have EA : Hid (∀ w', Calls Tryz.prog 9 #[.slice aa ops.length ac] w' fun e w'' => e = .returned (.slice aa (ops.take 50).length ac) ∧ w'' = w') := fun w' => early_any w w' aa ac ops ha
  obtain ⟨la, hla⟩ : ∃ n, ops.length = n := ⟨_, rfl⟩
  have h50 : (ops.take 50).length ≤ 50 := by rw [List.length_take]; omega
  obtain ⟨xs, hxs⟩ : ∃ l, ops.take 50 = l := ⟨_, rfl⟩
  rw [hla] at EA ⊢
  rw [hxs] at HA EA h50
  obtain ⟨na, hna⟩ : ∃ n, xs.length = n := ⟨_, rfl⟩
  have HNA : Hid (xs.length = na) := hna
  rw [hna] at EA h50
  clear ha hla hxs hna
  have pk0 := pick0
  go_enter Tryz.func5, Tryz.ntmps5
  go_wp2_with fail
  refine (lives_any _).mono ?_
  rintro e w0 ⟨rfl, hb0⟩
  have HB0 : Hid (Below w.heap.size w w0) := hb0
  clear hb0
  go_wp2_with fail
  refine (two_any _).mono ?_
  rintro e w1 ⟨b1, b2, V, L, rfl, _, hf1, _, hb1, hlow1, _, hlv, hll⟩
  have HF1 : Hid (Lone w w1 b1 V Vw.new L M0 0 newC ⟨#[]⟩) := ⟨hf1, fun x x0 x1 => .inl (M0_zero _ (by omega) (by omega)), HB0.out.trans (hb1.mono HB0.out.size), Nat.le_trans HB0.out.size hlow1, fun x hx => Nat.le_trans HB0.out.size (hlv x hx), fun x hx => Nat.le_trans HB0.out.size (hll x hx)⟩
  clear hf1 hb1 hlow1 hlv hll
  go_wp2_with fail
  refine Calls.mono (EA.out _) ?_
  rintro e w2 ⟨rfl, rfl⟩
  go_wp2
  go_loopw [6] (fun i wr => ∃ (j : Nat) (V' : VLay) (S' : Vw) (M' : Mem) (c' : Crd) (t' : ByteArray), j ≤ na ∧ i = .int .i64 j ∧ Hid (V'.vb = V.vb) ∧ Hid (Lone w wr b1 V' S' L M' (2824 * j) c' t')) (fun i _ => na - (intOf i).toNat)
  case atStart => exact ⟨0, V, _, _, _, _, Nat.zero_le _, rfl, rfl, HF1⟩
  case round =>
    obtain ⟨j, V', S', M', c', t', hj, rfl, HVB, HF⟩ := hrel
    by_cases hlt : j < na
    · have hjn : (j : Int) < (na : Int) := by omega
      obtain ⟨g, o, rfl, hgl, hc⟩ := HA.out.at_.resolve_left (fun e => by have := HNA.out; rw [e] at this; simp at this; omega)
      obtain ⟨x, hin⟩ := hc j (by rw [HNA.out]; exact hlt)
      obtain ⟨oo, hoo⟩ : ∃ z, xs.getD j noBop = z := ⟨_, rfl⟩
      rw [hoo] at x hin
      have hx : ∀ i, wr.cell? ⟨g, i, none⟩ = w.cell? ⟨g, i, none⟩ := fun i => World.cell?_of_block (a := ⟨g, i, none⟩) (HF.out.bel.block g hgl)
      have x0 : wr.cell? ⟨g, o + j * 4, none⟩ = some (.int .i64 oo.kind) := by rw [hx]; exact x 0 (by omega)
      have x1 : wr.cell? ⟨g, o + j * 4 + 1, none⟩ = some (.int .i64 oo.at_) := by rw [hx]; exact x 1 (by omega)
      have x2 : wr.cell? ⟨g, o + j * 4 + 2, none⟩ = some (.int .i64 oo.n) := by rw [hx]; exact x 2 (by omega)
      have x3 : wr.cell? ⟨g, o + j * 4 + 3, none⟩ = some (.string oo.data) := by rw [hx]; exact x 3 (by omega)
      have HS : Hid _ := HF.out.call oo (by omega) (bounds_i64 hin.at_).2
      clear hc x hin hoo hx
      go_wp2_with fail
      refine Calls.mono (Hid.out HS) ?_
      rintro e w5 ⟨rfl, V2, S2, M2, c2, t2, hvb, hf2, _⟩
      have HF2 : Hid (Lone w w5 b1 V2 S2 L M2 (2824 * (j + 1)) c2 t2) := by rw [show 2824 * (j + 1) = 2824 * j + 2824 by omega]; exact hf2
      have HVB2 : Hid (V2.vb = V.vb) := hvb.trans HVB.out
      clear x0 x1 x2 x3 hvb hf2
      go_wp2
      go_roundw
      case rel => exact ⟨j + 1, V2, S2, M2, c2, t2, by omega, by go_num, HVB2, HF2⟩
      case measure => simp [intOf]; omega
    · have hjn : ¬ (j : Int) < (na : Int) := by omega
      have hsw : ∃ n : Nat, IntKind.i64.wrap ((IntKind.u64.wrap size).tmod 2689) = (n : Int) ∧ n ≤ 2688 := sz_some size
      obtain ⟨n, hn, hn1⟩ := hsw
      have HN : Hid (n ≤ 2688) := hn1
      have HC1 : Hid _ := HF.out.cut 0 (by omega)
      go_wp2_with fail
      refine Calls.mono (Hid.out HC1) ?_
      rintro e w5 ⟨rfl, V2, S2, M2, c2, t2, hvb, hf2, hp2⟩
      have HF2 : Hid (Lone w w5 b1 V2 S2 L M2 (2824 * j + 2824) c2 t2) := hf2
      have HVB2 : Hid (V2.vb = V.vb) := hvb.trans HVB.out
      obtain ⟨ht2, hn2⟩ := cut_zero hp2
      have HT2 : Hid (t2 = docC t' 0) := ht2
      have HN2 : Hid (NoBlk M2.read c2) := hn2
      clear hvb hf2 hp2 ht2 hn2 HC1
      have HOW : Hid (∀ w1, Below w5.heap.size w5 w1 → Calls Tryz.prog 12 #[.pointer (some ⟨b1, 0, none⟩)] w1 fun e w' => e = .returned (.int .i64 0) ∧ Below w1.heap.size w1 w') := fun w1 hb => by
        have := own_any b1 V2 S2 L M2 (2824 * j + 2824) 2 c2 t2 w1 (HF2.out.later hb).f (by omega) (by omega)
        rw [HF2.out.own0 HN2.out] at this
        exact this
      go_wp2_with fail
      refine Calls.mono (HOW.out _ (Below.refl _ _)) ?_
      rintro e w6 ⟨rfl, hb6⟩
      have HF6 : Hid (Lone w w6 b1 V2 S2 L M2 (2824 * j + 2824) c2 t2) := HF2.out.later hb6
      clear hb6
      have f0 := HF6.out.f.obj.c0
      have HFR : Hid (Calls Tryz.prog 13 #[.pointer (some ⟨V2.vb, 0, none⟩)] w6 fun e w' => e = .returned (.int .i64 96) ∧ Below w6.heap.size w6 w') := by
        have := free_any V2 S2 0 L M2 w6 HF6.out.f.rest.on
        rw [HF6.out.free0 HN2.out] at this
        exact this
      go_wp2_with fail
      refine Calls.mono (Hid.out HFR) ?_
      rintro e w7 ⟨rfl, hb7⟩
      have HF7 : Hid (Lone w w7 b1 V2 S2 L M2 (2824 * j + 2824) c2 t2) := HF6.out.later hb7
      clear hb7 f0 HFR
      have HC2 : Hid _ := HF7.out.cut (n : Int) (by omega)
      go_wp2_with fail
      try rw [hn]
      refine Calls.mono (Hid.out HC2) ?_
      rintro e w8 ⟨rfl, V3, S3, M3, c3, t3, hvb, hf3, hp3⟩
      have HF8 : Hid (Lone w w8 b1 V3 S3 L M3 (2824 * j + 2824 + 2824) c3 t3) := hf3
      obtain ⟨ht3, hn3⟩ := cut_more hp3 HN.out HN2.out
      have HT3 : Hid (t3.size = n ∧ ∀ i, Wd.bAt t3 i = 0) := by
        refine ⟨by rw [ht3, docC_size], fun i => ?_⟩
        rw [ht3, docC_at, HT2.out, docC_at]
        simp
      have HN3 : Hid (NoBlk M3.read c3) := hn3
      clear hvb hf3 hp3 ht3 hn3 HC2
      have HRD : Hid (∀ w1, Below w8.heap.size w8 w1 → Calls Tryz.prog 14 #[.pointer (some ⟨V3.vb, 0, none⟩), .agg #[.int .i64 c3.k, .int .i64 c3.l, .int .i64 c3.s, .int .u64 c3.v, .int .i64 c3.d0, .int .i64 c3.d1, .int .i64 c3.d2, .int .i64 c3.d3, .int .i64 c3.d4, .int .i64 c3.m], .int .i64 0, .int .i64 4096] w1 fun e w' => e = .returned (.tuple #[.string t3, .int .i64 0]) ∧ Below w1.heap.size w1 w') := fun w1 hb => (HF8.out.later hb).f.read
      have f0 := HF8.out.f.obj.c0
      have f3 := HF8.out.f.obj.c3
      have f4 := HF8.out.f.obj.c4
      have f5 := HF8.out.f.obj.c5
      have f6 := HF8.out.f.obj.c6
      have f7 := HF8.out.f.obj.c7
      have f8 := HF8.out.f.obj.c8
      have f9 := HF8.out.f.obj.c9
      have f10 := HF8.out.f.obj.c10
      have f11 := HF8.out.f.obj.c11
      have f12 := HF8.out.f.obj.c12
      go_wp2
      go_region_held3 (fun v' => v'.cell? ⟨b1, 0, none⟩ = some (.pointer (some ⟨V3.vb, 0, none⟩)) ∧ v'.cell? ⟨b1, 3, none⟩ = some (.int .i64 c3.k) ∧ v'.cell? ⟨b1, 4, none⟩ = some (.int .i64 c3.l) ∧ v'.cell? ⟨b1, 5, none⟩ = some (.int .i64 c3.s) ∧ v'.cell? ⟨b1, 6, none⟩ = some (.int .u64 c3.v) ∧ v'.cell? ⟨b1, 7, none⟩ = some (.int .i64 c3.d0) ∧ v'.cell? ⟨b1, 8, none⟩ = some (.int .i64 c3.d1) ∧ v'.cell? ⟨b1, 9, none⟩ = some (.int .i64 c3.d2) ∧ v'.cell? ⟨b1, 10, none⟩ = some (.int .i64 c3.d3) ∧ v'.cell? ⟨b1, 11, none⟩ = some (.int .i64 c3.d4) ∧ v'.cell? ⟨b1, 12, none⟩ = some (.int .i64 c3.m)) (first | go_keep | fail "KEEP")
        (first
          | (go_at_call 14; refine Calls.mono (HRD.out _ (by first | exact Below.refl _ _ | exact (Below.refl _ _).drew)) ?_; rintro e w9 ⟨rfl, hb9⟩; have HF9 : Hid (Lone w w9 b1 V3 S3 L M3 (2824 * j + 2824 + 2824) c3 t3) := HF8.out.later (by first | exact hb9 | exact (Below.refl _ _).drew.trans hb9); clear hb9; have f0 := HF9.out.f.obj.c0; have f3 := HF9.out.f.obj.c3; have f4 := HF9.out.f.obj.c4; have f5 := HF9.out.f.obj.c5; have f6 := HF9.out.f.obj.c6; have f7 := HF9.out.f.obj.c7; have f8 := HF9.out.f.obj.c8; have f9 := HF9.out.f.obj.c9; have f10 := HF9.out.f.obj.c10; have f11 := HF9.out.f.obj.c11; have f12 := HF9.out.f.obj.c12))
      all_goals
        clear f0 f3 f4 f5 f6 f7 f8 f9 f10 f11 f12
        have hts := HT3.out.1
        go_wp2
        go_loopw [9] (fun i wr => ∃ k : Nat, k ≤ n ∧ i = .int .i64 k ∧ Hid (Below w9.heap.size w9 wr)) (fun i _ => n - (intOf i).toNat)
        case atStart => exact ⟨0, Nat.zero_le _, rfl, Below.refl _ _⟩
        case round =>
          obtain ⟨k, hk, rfl, HB⟩ := hrel
          by_cases hkn : k < n
          · have hkc : (k : Int) < (n : Int) := by omega
            have hkd : (k : Int) < (t3.size : Int) := by omega
            have hkz : k < t3.size := by omega
            have hby : ((t3[k].toNat : Nat) : Int) = 0 := by
              have := HT3.out.2 k
              rw [Wd.bAt_eq t3 k hkz] at this
              omega
            go_wp2
            go_roundw
            case rel => exact ⟨k + 1, by omega, by go_num, HB⟩
            case measure => simp [intOf]; omega
          · have hkc : ¬ (k : Int) < (n : Int) := by omega
            have hkd : ¬ (k : Int) < (t3.size : Int) := by omega
            have HFZ : Hid (Lone w wr b1 V3 S3 L M3 (2824 * j + 2824 + 2824) c3 t3) := HF9.out.later HB.out
            have HOZ : Hid (Calls Tryz.prog 12 #[.pointer (some ⟨b1, 0, none⟩)] wr fun e w' => e = .returned (.int .i64 0) ∧ Below wr.heap.size wr w') := by
              have := own_any b1 V3 S3 L M3 (2824 * j + 2824 + 2824) 2 c3 t3 wr HFZ.out.f (by omega) (by omega)
              rw [HFZ.out.own0 HN3.out] at this
              exact this
            go_wp2_with fail
            refine Calls.mono (Hid.out HOZ) ?_
            rintro e wz ⟨rfl, hbz⟩
            have HBZ : Hid (Below w.heap.size w wz) := (HFZ.out.later hbz).bel
            clear hbz
            go_wp2
            go_ret
            exact ⟨rfl, HBZ.out⟩
set_option maxRecDepth 100000 in
theorem lifted (os : Os) (started : os.Started) (H : Type) (enc : TypeId × Value → H) :
    ReturnsInHanded {} Tryz.checked os 5 .any (Rows.bodyNoneSpec.pre6 enc Tryz.prog Tryz.f5 Rows.bodyNoneRow.domain false) (Rows.bodyNoneSpec.post enc Tryz.prog Tryz.f5 false true false false) := by
  refine returnsInHanded_of_change (C := Tryz.checked) own started (by kernel_rfl) Tryz.func5
    (ChangeSpec.witness6 (enc := enc) (C := Tryz.checked) false ⟨#[], #[.slice none 0 0, .int .i64 0], []⟩ 8 (by kernel_rfl) (by kernel_rfl) (by kernel_rfl) (by kernel_rfl)) ?_
  intro W base args ds gs before hval0 hW hcnd _
  have hval : ∀ (j : Nat) t v, Tryz.f5.params[j]? = some t → args[j]? = some v → Value.okWide Tryz.prog W .any base t v := hval0
  have hW' := hW
  obtain ⟨p, q, hA0, hV, rfl, hfz, hnd⟩ := hW
  have hA : DataW.TrodAll enc Tryz.prog W 0 (fun _ => true) true Tryz.f5.params.toList args.toList ds p := hA0
  rw [Tryz.params5] at hA hval
  obtain ⟨v0, vs0, d0, ds0, p0, q0, hargs, rfl, rfl, h0, r0⟩ := trodAll_cons hA
  obtain ⟨v1, vs1, d1, ds1, p1, q1, rfl, rfl, rfl, h1, r1⟩ := trodAll_cons r0
  obtain ⟨rfl, rfl, rfl⟩ := trodAll_nil r1
  obtain rfl : args = #[v0, v1] := by cases args; simp_all
  obtain ⟨rfl, rfl⟩ := trodVars_none hV
  have k0 := h0
  have lt0 : ∀ x ∈ p0, x.block < W.heap.size := by obtain ⟨m, hm⟩ := k0; exact DataW.trod_lt m _ _ _ hm
  obtain ⟨a0, len0, cap0, rfl⟩ := okWide_slice Tryz.underlying22 (hval 0 22 v0 rfl rfl)
  obtain ⟨cs0, hl0, w0⟩ := open_bops rfl h0
  subst hl0
  obtain ⟨a1, rfl, rfl, rfl, w1⟩ := open_int Tryz.underlying3 (hval 1 3 v1 rfl rfl) h1
  clear hA0 hval0
  refine (walk a0 cap0 cs0 a1 W w0 (bounds_i64 w1)).mono fun e W' ⟨he, bel⟩ => ?_
  subst he
  exact ⟨_, rfl, _, _, _, [], _, [], hW', trodAll_mk1 (shut_bool Tryz.underlying4 _), (trodAll_cons_mk (Below.trod laidOut (by kernel_rfl) (of_decide_eq_true (by kernel_rfl)) k0 bel lt0) (trodAll_cons_mk (shut_int Tryz.underlying3 w1) trodAll_mk0)), rfl, bel.frame _, fun h => by cases h⟩

theorem over : Rows.bodyNoneRow.holds Tryz.pinned (OpenSpec.ofChange Rows.bodyNoneSpec) :=
  OpenClaim.holds_of_wide 5 Tryz.f5 rfl rfl rfl rfl rfl rfl rfl ⟨rfl, rfl, rfl, rfl, rfl⟩ rfl rfl rfl rfl rfl (by kernel_rfl) Tryz.func5 (by kernel_rfl)
    (of_decide_eq_true (by kernel_rfl)) (by unfold Func.isWrapper; first | (rw [if_pos (by decide +kernel)]; kernel_rfl) | (rw [if_neg (by decide +kernel)]; exact ⟨rfl, rfl⟩))
    (fun os started H enc _ => lifted os started H enc)

theorem proved : Rows.BodyNoneSaid := over
#print axioms proved
end Go.Proofs.YtdjnkibnnjobpaaGreat.bodyNone
