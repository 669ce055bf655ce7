/- BodyMaps: the map of any card over any words, or that it may not be, is what the document says; a map that is kept is the card's. No condition. -/
import Derived.Test.YtdjnkibnnjobpaaBdMd
import Derived.Test.YtdjnkibnnjobpaaRows
import Derived.Test.YtdjnkibnnjobpaaChecked
namespace Go.Proofs.Ytdjnkibnnjobpaa.bodyMaps
open Go.RowKit Go.Maps Go.ChangeMaps Go.ChangeShapes Go.WideShapes Go.ChangeAt Go.Deep Go.Joins
set_option linter.unusedVariables false
set_option linter.unusedSimpArgs false

set_option maxHeartbeats 8000000 in
set_option maxRecDepth 100000 in
theorem walk (ca : Option Addr) (ccap : Nat) (cs : List Chg) (c : Crd) (ma : Option Addr) (mn mc : Nat) (mf : Nat → Int) (w : World) (hcs : ChgIn w ca ccap cs) (hc : (Lit.int .u64 c.v).wf = true) (hm : NumsIn w (.slice ma mn mc) ma mn mc mf) :
    Calls Try.prog 3 #[.slice ca cs.length ccap, .agg c.vals.toArray, .slice ma mn mc] w fun e w' => e = .returned (.bool true) ∧ Below w.heap.size w w' := by
  obtain ⟨k, l, s, v, d0, d1, d2, d3, d4, m⟩ := c
  show Calls Try.prog 3 #[.slice ca cs.length ccap, .agg #[.int .i64 k, .int .i64 l, .int .i64 s, .int .u64 v, .int .i64 d0, .int .i64 d1, .int .i64 d2, .int .i64 d3, .int .i64 d4, .int .i64 m], .slice ma mn mc] w _
  have HCS : Hid (ChgIn w ca ccap cs) := hcs
  have HM : Hid (IntsAt w ma mn mf ∧ (∀ i, i < mn → -9223372036854775808 ≤ mf i ∧ mf i ≤ 9223372036854775807) ∧ mn ≤ maxLen ∧ mn ≤ mc) := ⟨hm.at_, fun i hi => bounds_i64m (hm.ok i hi), hm.len, hm.le⟩
  have hmn : mn ≤ 9223372036854775807 := by have := hm.len; unfold maxLen at this; omega
  obtain ⟨nc, hnc⟩ : ∃ n, cs.length = n := ⟨_, rfl⟩
  have HNC : Hid (cs.length = nc) := hnc
  rw [hnc]
  clear hcs hc hm hnc
  go_enter Try.func3, Try.ntmps3
  go_wp2_with fail
  obtain ⟨X, hX⟩ : ∃ X, w.alloc (.cells #[.int .i64 k, .int .i64 l, .int .i64 s, .int .u64 v, .int .i64 d0, .int .i64 d1, .int .i64 d2, .int .i64 d3, .int .i64 d4, .int .i64 m] 26) = X := ⟨_, rfl⟩
  have HCA : Hid (CardAt X w.heap.size k l s v d0 d1 d2 d3 d4 m) := by show CardAt _ _ _ _ _ _ _ _ _ _ _ _; rw [← hX]; exact heap_alloc_new _ _
  have HBX : Hid (Below w.heap.size w X) := by show Below _ _ _; rw [← hX]; exact (Below.refl _ _).alloc (Nat.le_refl _) _
  rw [hX]
  clear hX
  obtain ⟨bx, hbx⟩ : ∃ x, w.heap.size = x := ⟨_, rfl⟩
  have HBXE : Hid (w.heap.size = bx) := hbx
  have HCX : Hid (∀ u, Below X.heap.size X u → Cd.Ten u bx k l s v d0 d1 d2 d3 d4 m) := fun u hb => by rw [← hbx]; exact (HCA.out.later hb).ten
  rw [hbx]
  clear hbx
  refine (lives_any X).mono ?_
  rintro e w1 ⟨rfl, hb⟩
  have HB1 : Hid (Below X.heap.size X w1) := hb
  clear hb
  obtain ⟨c0, c1, c2, c3, c4, c5, c6, c7, c8, c9⟩ := HCX.out w1 HB1.out
  by_cases hR : Cd.Rt k l s d0 d1 d2 d3 d4 m
  · have hm01 := rt_more hR
    have HRT : Hid _ := Cd.refRight_yes k l s v d0 d1 d2 d3 d4 m w1 hR
    clear hR
    go_wp2_with fail
    refine Calls.mono (Hid.out HRT) ?_
    rintro e w2 ⟨rfl, hb⟩
    have HB2 : Hid (Below X.heap.size X w2) := HB1.out.trans (hb.mono HB1.out.size)
    clear hb c0 c1 c2 c3 c4 c5 c6 c7 c8 c9 HRT
    have HIM : Hid _ := imageSp_any ca cs.length ccap cs w2 (HCS.out.at_.later (Nat.le_refl _) (HBX.out.trans (HB2.out.mono HBX.out.size))) rfl (fun i hi => bounds_u64 (HCS.out.ok i hi).2) (fun i hi => (HCS.out.ok i hi).1) (Nat.le_trans HCS.out.le HCS.out.max)
    rw [HNC.out] at HIM
    go_wp2_with fail
    refine Calls.mono (Hid.out HIM) ?_
    rintro e w3 ⟨G, f, rfl, hr3, hf3, _, _, hb⟩
    have HB3 : Hid (Below X.heap.size X w3) := HB2.out.trans (hb.mono HB2.out.size)
    have HR3 : Hid (RowIs w3 G f) := hr3
    have HF : Hid (∀ i, i < 2824 → 0 ≤ f i ∧ f i ≤ 18446744073709551615) := hf3
    have HLD : Hid _ := load_img G f w3 hr3 hf3
    have HRN : Hid (∀ u, RowIs u G f → Calls Try.prog 10 #[.slice (some ⟨G, 0, none⟩) 2824 2824] u fun e w' => ∃ rb nb nc, e = .returned (.pointer (some ⟨rb, 0, none⟩)) ∧ RV w' rb nb nc f ∧ Below u.heap.size u w') := fun u hu => rv_new u G f hu
    obtain ⟨Ln, hLn⟩ : ∃ n : Nat, 2824 = n := ⟨_, rfl⟩
    have HLN : Hid (2824 = Ln) := hLn
    have hLb : Ln ≤ 3000 := by omega
    rw [hLn] at HLD HRN ⊢
    clear hr3 hf3 hb hLn HIM
    go_wp2_with fail
    refine Calls.mono (Hid.out HLD) ?_
    rintro e w4 ⟨L, rfl, hm4, _, hb4⟩
    have HM4 : Hid (MemIs w4 L (fresh (imgL f))) := hm4
    have HB34 : Hid (Below w3.heap.size w3 w4) := hb4
    have HB4 : Hid (Below X.heap.size X w4) := HB3.out.trans (hb4.mono HB3.out.size)
    have HR4 : Hid (RowIs w4 G f) := HR3.out.later (Nat.le_refl _) hb4
    clear hm4 hb4 HLD
    go_wp2_with fail
    refine (vnew_yes L (fresh (imgL f)) w4 HM4.out (by rw [fresh_sure]; exact imgL_len f)).mono ?_
    rintro e w5 ⟨rfl, hv5, hb5⟩
    have hses := begin_ses HB3.out HM4.out HB34.out hv5 hb5
    obtain ⟨V, hV⟩ : ∃ A, newLay L.mb w4.heap.size = A := ⟨_, rfl⟩
    rw [hV] at hses
    obtain ⟨M, hMM⟩ : ∃ M, fresh (imgL f) = M := ⟨_, rfl⟩
    have HWD : Hid (∀ i : Nat, i < 2824 → Vw.new.word M (i : Int) = f i) := fun i hi => by rw [← hMM]; exact img_word f i hi
    rw [hMM] at hses
    have HS5 : Hid (Ses X w5 V Vw.new 0 L M) := hses
    have HVV : Hid (V.vb = w4.heap.size) := by rw [← hV]; rfl
    have HR5 : Hid (RowIs w5 G f) := HR4.out.later (Nat.le_refl _) hb5
    have HVG : Hid (∀ j ∈ V.all, w.heap.size < j) := fun j hj => by have h1 := HS5.out.low j hj; have h2 := (Array.getElem?_eq_some_iff.1 HCA.out).1; omega
    rw [← HVV.out]
    clear hv5 hb5 hses hV hMM
    go_wp2_with fail
    refine Calls.mono (HRN.out _ HR5.out) ?_
    rintro e w6 ⟨rb, nb, ncc, rfl, hrv, hb6⟩
    have HS6 : Hid (Ses X w6 V Vw.new 0 L M) := HS5.out.later hb6
    have HRV : Hid (RV w6 rb nb ncc f) := hrv
    clear hrv hb6 HR5 HS5 HRN
    obtain ⟨B, hB⟩ := B_some (Vw.new.word M) m
    have HMAP : Hid _ := map_any V Vw.new 0 L M k l s v d0 d1 d2 d3 d4 m w6 HS6.out.on hm01.1 hm01.2 B hB
    have HRMP : Hid (∀ u, Below w6.heap.size w6 u → Calls Try.prog 12 #[.pointer (some ⟨rb, 0, none⟩), .agg #[.int .i64 k, .int .i64 l, .int .i64 s, .int .u64 v, .int .i64 d0, .int .i64 d1, .int .i64 d2, .int .i64 d3, .int .i64 d4, .int .i64 m]] u fun e w' => RMapTo u w' e (mapF (Vw.new.word M) d0 d1 d2 d3 d4 m) B ∧ Below u.heap.size u w') := fun u hb => rmap_any rb nb ncc f k l s v d0 d1 d2 d3 d4 m u (HRV.out.later hb) (fun i hi => (HF.out i hi).1) hm01.1 hm01.2 (Vw.new.word M) HWD.out B hB
    obtain ⟨c0, c1, c2, c3, c4, c5, c6, c7, c8, c9⟩ := HCX.out w6 HS6.out.bel
    clear hm01 hB
    go_wp2_with fail
    refine Calls.mono (Hid.out HMAP) ?_
    rintro e w7 ⟨hm7, hb7⟩
    have HB7 : Hid (Below w6.heap.size w6 w7) := hb7
    have HS7 : Hid (Ses X w7 V Vw.new 0 L M) := HS6.out.later hb7
    clear hb7 c0 c1 c2 c3 c4 c5 c6 c7 c8 c9 HMAP
    obtain ⟨c0, c1, c2, c3, c4, c5, c6, c7, c8, c9⟩ := HCX.out w7 HS7.out.bel
    cases B with
    | true =>
      obtain ⟨_, ga, hga, rfl, hia⟩ := hm7.resolve_right (fun x => absurd x.1 (by decide))
      have HIA : Hid (IRow w7 ga 21 (mapF (Vw.new.word M) d0 d1 d2 d3 d4 m)) := hia
      clear hm7 hga hia
      go_wp2_with fail
      refine Calls.mono (HRMP.out _ HB7.out) ?_
      rintro e w8 ⟨hm8, hb8⟩
      obtain ⟨_, gb, cb, rfl, _, _, _, hib⟩ := hm8.resolve_right (fun x => absurd x.1 (by decide))
      have HS8 : Hid (Ses X w8 V Vw.new 0 L M) := HS7.out.later hb8
      have HSI : Hid _ := same_ints (some ⟨ga, 0, none⟩) (some ⟨gb, 0, none⟩) 21 21 cb _ _ w8 ((irow_ints HIA.out).later (Nat.le_refl _) hb8) hib (by unfold maxLen; omega) (fun i _ => rfl)
      clear hm8 hb8 hib c0 c1 c2 c3 c4 c5 c6 c7 c8 c9
      go_wp2_with fail
      refine Calls.mono (Hid.out HSI) ?_
      rintro e w9 ⟨rfl, hb9⟩
      have HS9 : Hid (Ses X w9 V Vw.new 0 L M) := HS8.out.later hb9
      clear hb9
      go_wp2_with fail
      refine (refFresh_yes 1 1 _ (.inl rfl)).mono ?_
      rintro e w10 ⟨rfl, hb10⟩
      have HS10 : Hid (Ses X w10 V Vw.new 0 L M) := HS9.out.later hb10
      clear hb10
      by_cases hmb : mayB mf mn = true
      · obtain ⟨h21, hmf⟩ := (mayB_iff mf mn).1 hmb
        have HMF : Hid (∀ i, i < mn → -1 ≤ mf i ∧ mf i < 96) := hmf
        obtain ⟨yb, yo, hma, hyl, hyc⟩ := HM.out.1.resolve_left (by omega)
        have HKP : Hid (∀ u, Ses X u V Vw.new 0 L M → Calls Try.prog 15 #[.pointer (some ⟨V.vb, 0, none⟩), .int .i64 2, .agg #[.int .i64 1, .int .i64 1, .int .i64 0, .int .u64 1, .int .i64 (-1), .int .i64 (-1), .int .i64 (-1), .int .i64 (-1), .int .i64 (-1), .int .i64 (-1)], .slice ma mn mc] u fun e w' => ∃ mr er S' N', e = .returned (.tuple #[keptV er 1 1 0 1 mf mr, .int .i64 er]) ∧ KMore Vw.new M 2 (-1) mf mr er S' ∧ Ses X w' V S' N' L M) := fun u hu => by
          have hbw : Below w.heap.size w u := HBX.out.trans (hu.bel.mono HBX.out.size)
          rw [hma]
          subst h21
          refine (keep_any V Vw.new 0 L M 2 1 1 0 1 (-1) (-1) (-1) (-1) (-1) (-1) yb yo mc mf u hu.on (by omega) (by omega) (by omega) (by omega) (by omega) (.inr ⟨yb, yo, rfl, Nat.lt_of_lt_of_le hyl hbw.size, fun i hi => (World.cell?_of_block (a := ⟨yb, yo + i, none⟩) (hbw.block yb hyl)).trans (hyc i hi)⟩) (fun hm => by have := HVG.out _ hm; omega) HM.out.2.2.2 hmf (fun _ h => absurd rfl h)).mono ?_
          rintro e w' ⟨mr, er, S', N', h1, h2, h3, _, h5⟩
          exact ⟨mr, er, S', N', h1, h2, hu.step h3 h5⟩
        have HSB : Hid (∀ u, Below w.heap.size w u → IntsAt u ma mn mf) := fun u hb => HM.out.1.later (Nat.le_refl _) hb
        have H21 : Hid (mn = 21) := h21
        clear hmb h21 hmf hma hyl hyc
        go_wp2_with fail
        refine Calls.mono (HKP.out _ (HS10.out.later ((Below.refl _ _).alloc (Nat.le_refl _) _))) ?_
        rintro e w12 ⟨mr, er, S2, N2, rfl, hk, hs12⟩
        have HS12 : Hid (Ses X w12 V S2 N2 L M) := hs12
        clear hs12 HKP
        rcases hk.er with he | he
        · subst he
          have HKB : Hid (KeptB (S2.word M) mf mr) := kept_any hk (fun i hi => HMF.out i (by have := H21.out; omega))
          unfold keptV
          rw [if_pos rfl]
          clear hk
          go_wp2_with fail
          obtain ⟨w13, hw13⟩ : ∃ x, w12.alloc (.cells #[.int .i64 1, .int .i64 1, .int .i64 0, .int .u64 1, .int .i64 (mf 0), .int .i64 (mf 1), .int .i64 (mf 2), .int .i64 (mf 3), .int .i64 (mf 4), .int .i64 mr] 26) = x := ⟨_, rfl⟩
          have HS13 : Hid (Ses X w13 V S2 N2 L M) := by
            show Ses _ _ _ _ _ _ _
            rw [← hw13]
            exact HS12.out.later ((Below.refl _ _).alloc (Nat.le_refl _) _)
          have HCX13 : Hid (CardAt w13 w12.heap.size 1 1 0 1 (mf 0) (mf 1) (mf 2) (mf 3) (mf 4) mr) := by
            show CardAt _ _ _ _ _ _ _ _ _ _ _ _
            rw [← hw13]
            exact heap_alloc_new _ _
          obtain ⟨xb, hxb⟩ : ∃ x, w12.heap.size = x := ⟨_, rfl⟩
          rw [hxb] at HCX13
          rw [hw13, hxb]
          clear hw13 hxb
          have HBW : Hid (Below w.heap.size w w13) := HBX.out.trans (HS13.out.bel.mono HBX.out.size)
          have hd21 : decide ((mn : Int) = 21) = true := decide_eq_true (by have := H21.out; omega)
          have he21 : ((mn : Int) == 21) = true := by have := H21.out; simp; omega
          go_wp2
          go_loopw [18, 19] (fun ft i wr => ∃ j : Nat, j ≤ mn ∧ i = .int .i64 j ∧ ft = .bool true ∧ Hid (Below w13.heap.size w13 wr)) (fun _ i _ => mn - (intOf i).toNat)
          case atStart => exact ⟨0, Nat.zero_le _, rfl, by rw [he21], Below.refl _ _⟩
          case round =>
            obtain ⟨j, hj, rfl, rfl, HB⟩ := hrel
            by_cases hlt : j < mn
            · have hjn : (j : Int) < (mn : Int) := by omega
              obtain ⟨yb, yo, hma, hyl, hyc⟩ := HM.out.1.resolve_left (by omega)
              have x1 : wr.cell? ⟨yb, yo + j, none⟩ = some (.int .i64 (mf j)) := (World.cell?_of_block (a := ⟨yb, yo + j, none⟩) (((HBW.out.trans (HB.out.mono HBW.out.size))).block yb hyl)).trans (hyc j hlt)
              clear hyl hyc
              subst hma
              obtain ⟨y1, y2⟩ := HMF.out j (by omega)
              obtain ⟨Y, hY⟩ : ∃ Y, mf j = Y := ⟨_, rfl⟩
              rw [hY] at x1 y1 y2
              clear hY
              go_wp2
              go_roundw
              case rel => exact ⟨j + 1, by omega, by go_num, rfl, HB⟩
              case measure => simp [intOf]; omega
            · obtain rfl : j = mn := by omega
              have hjn : ¬ (j : Int) < (j : Int) := by omega
              have HSW : Hid (Ses X wr V S2 N2 L M) := HS13.out.later HB.out
              have HMAP2 : Hid _ := map_any V S2 N2 L M 1 1 0 1 (mf 0) (mf 1) (mf 2) (mf 3) (mf 4) mr wr HSW.out.on HKB.out.rng.1 HKB.out.rng.2 true ⟨fun _ => HKB.out.may, fun _ => rfl⟩
              have HCW : Hid (CardAt wr xb 1 1 0 1 (mf 0) (mf 1) (mf 2) (mf 3) (mf 4) mr) := HCX13.out.later HB.out
              obtain ⟨z0, z1, z2, z3, z4, z5, z6, z7, z8, z9⟩ := HCW.out.ten
              go_wp2_with fail
              refine Calls.mono (Hid.out HMAP2) ?_
              rintro e w14 ⟨hm14, hb14⟩
              obtain ⟨_, gz, hgz, rfl, hiz⟩ := hm14.resolve_right (fun x => absurd x.1 (by decide))
              have HB14 : Hid (Below wr.heap.size wr w14) := hb14
              have HBZ : Hid (Below w.heap.size w w14) := HBW.out.trans ((HB.out.trans (hb14.mono HB.out.size)).mono HBW.out.size)
              have HSM : Hid (∀ u, Below w14.heap.size w14 u → Calls Try.prog 13 #[.slice (some ⟨gz, 0, none⟩) 21 21, .slice ma j mc] u fun e w' => e = .returned (.bool true) ∧ Below u.heap.size u w') := fun u hb => by
                have h21 := H21.out
                have hI : IntsAt u ma 21 mf := by rw [← h21]; exact HSB.out u (HBZ.out.trans (hb.mono HBZ.out.size))
                have := same_ints (some ⟨gz, 0, none⟩) ma 21 21 mc _ mf u ((irow_ints hiz).later (Nat.le_refl _) hb) hI (by unfold maxLen; omega) (fun i hi => HKB.out.back i hi)
                rw [h21]
                exact this
              obtain ⟨yb, yo, hma, hyl, hyc⟩ := HM.out.1.resolve_left (by have := H21.out; omega)
              have hmc : 21 ≤ mc := by have := HM.out.2.2.2; have := H21.out; omega
              have HSO : Hid (∀ u, Below w14.heap.size w14 u → Calls Try.prog 16 #[.slice (some ⟨yb, yo + 5, none⟩) 16 (mc - 5)] u fun e w' => e = .returned (.bool (decide (0 ≤ mr))) ∧ Below u.heap.size u w') := fun u hb => by
                have hbw : Below w.heap.size w u := HBZ.out.trans (hb.mono HBZ.out.size)
                rw [HKB.out.more]
                have h21 := H21.out
                exact some_any (some ⟨yb, yo + 5, none⟩) 16 (mc - 5) (fun i => mf (5 + i)) u (.inr ⟨yb, yo + 5, rfl, Nat.lt_of_lt_of_le hyl hbw.size, fun i hi => by
                  rw [Nat.add_assoc]
                  exact (World.cell?_of_block (a := ⟨yb, yo + (5 + i), none⟩) (hbw.block yb hyl)).trans (hyc (5 + i) (by omega))⟩) (by unfold maxLen; omega)
              have hsl : ∀ u, (Instr.slice 27 (.slice (some ⟨yb, yo, none⟩) j mc) (some (.int .i64 5)) none none).run Try.prog u = .ok (.slice (some ⟨yb, yo + 5, none⟩) 16 (mc - 5)) u := fun u => by
                rw [H21.out]
                exact slice5 yb yo mc hmc u
              have HC14 : Hid (CardAt w14 xb 1 1 0 1 (mf 0) (mf 1) (mf 2) (mf 3) (mf 4) mr) := HCW.out.later hb14
              clear z0 z1 z2 z3 z4 z5 z6 z7 z8 z9 hm14 hb14 hgz hiz hyl hyc hmc HMAP2
              subst hma
              obtain ⟨bm, hbm⟩ : ∃ b, decide (0 ≤ mr) = b := ⟨_, rfl⟩
              rw [hbm] at HSO
              have z9 := (box_cells HC14.out).2
              have HU14 : Hid (Below w14.heap.size w14 w14) := Below.refl _ _
              go_wp2
              go_region_held3 (fun v' => v'.cell? ⟨xb, 9, none⟩ = some (.int .i64 mr)) (first | go_keep | fail "KEEP")
                (first
                  | (go_at_call 13; refine Calls.mono (HSM.out _ (by first | exact HU14.out | exact HU14.out.drew)) ?_; rintro e w15 ⟨rfl, hb15⟩; have HB15 : Hid (Below w14.heap.size w14 w15) := (by first | exact hb15 | exact (Below.refl _ _).drew.trans hb15); have z9 := (box_cells (HC14.out.later HB15.out)).2; clear hb15)
                  | (go_at_call 16; refine Calls.mono (HSO.out _ (by first | exact HB15.out | exact HB15.out.drew)) ?_; rintro e w16 ⟨rfl, hb16⟩; have HB16 : Hid (Below w14.heap.size w14 w16) := HB15.out.trans (hb16.mono HB15.out.size); have z9 := (box_cells (HC14.out.later HB16.out)).2; clear hb16))
              all_goals
                go_wp2
                go_ret
                exact ⟨by first | rfl | simp, HBZ.out.trans (HB16.out.mono HBZ.out.size)⟩
        · subst he
          unfold keptV
          rw [if_neg (by decide)]
          clear hk
          go_wp2_with fail
          obtain ⟨w13, hw13⟩ : ∃ x, w12.alloc (.cells #[.int .i64 0, .int .i64 0, .int .i64 0, .int .u64 0, .int .i64 0, .int .i64 0, .int .i64 0, .int .i64 0, .int .i64 0, .int .i64 0] 26) = x := ⟨_, rfl⟩
          have HS13 : Hid (Ses X w13 V S2 N2 L M) := by
            show Ses _ _ _ _ _ _ _
            rw [← hw13]
            exact HS12.out.later ((Below.refl _ _).alloc (Nat.le_refl _) _)
          have HCX13 : Hid (CardAt w13 w12.heap.size 0 0 0 0 0 0 0 0 0 0) := by
            show CardAt _ _ _ _ _ _ _ _ _ _ _ _
            rw [← hw13]
            exact heap_alloc_new _ _
          obtain ⟨xb, hxb⟩ : ∃ x, w12.heap.size = x := ⟨_, rfl⟩
          rw [hxb] at HCX13
          rw [hw13, hxb]
          clear hw13 hxb
          have HBW : Hid (Below w.heap.size w w13) := HBX.out.trans (HS13.out.bel.mono HBX.out.size)
          have hd21 : decide ((mn : Int) = 21) = true := decide_eq_true (by have := H21.out; omega)
          have he21 : ((mn : Int) == 21) = true := by have := H21.out; simp; omega
          go_wp2
          go_loopw [18, 19] (fun ft i wr => ∃ j : Nat, j ≤ mn ∧ i = .int .i64 j ∧ ft = .bool true ∧ Hid (Below w13.heap.size w13 wr)) (fun _ i _ => mn - (intOf i).toNat)
          case atStart => exact ⟨0, Nat.zero_le _, rfl, by rw [he21], Below.refl _ _⟩
          case round =>
            obtain ⟨j, hj, rfl, rfl, HB⟩ := hrel
            by_cases hlt : j < mn
            · have hjn : (j : Int) < (mn : Int) := by omega
              obtain ⟨yb, yo, hma, hyl, hyc⟩ := HM.out.1.resolve_left (by omega)
              have x1 : wr.cell? ⟨yb, yo + j, none⟩ = some (.int .i64 (mf j)) := (World.cell?_of_block (a := ⟨yb, yo + j, none⟩) (((HBW.out.trans (HB.out.mono HBW.out.size))).block yb hyl)).trans (hyc j hlt)
              clear hyl hyc
              subst hma
              obtain ⟨y1, y2⟩ := HMF.out j (by omega)
              obtain ⟨Y, hY⟩ : ∃ Y, mf j = Y := ⟨_, rfl⟩
              rw [hY] at x1 y1 y2
              clear hY
              go_wp2
              go_roundw
              case rel => exact ⟨j + 1, by omega, by go_num, rfl, HB⟩
              case measure => simp [intOf]; omega
            · obtain rfl : j = mn := by omega
              have hjn : ¬ (j : Int) < (j : Int) := by omega
              go_wp2
              go_ret
              exact ⟨by first | rfl | simp, HBW.out.trans (HB.out.mono HBW.out.size)⟩
      · have HMB : Hid (mayB mf mn = false) := by show _ = _; simpa using hmb
        have HKP : Hid (∀ u, Ses X u V Vw.new 0 L M → Calls Try.prog 15 #[.pointer (some ⟨V.vb, 0, none⟩), .int .i64 2, .agg #[.int .i64 1, .int .i64 1, .int .i64 0, .int .u64 1, .int .i64 (-1), .int .i64 (-1), .int .i64 (-1), .int .i64 (-1), .int .i64 (-1), .int .i64 (-1)], .slice ma mn mc] u fun e w' => e = .returned (.tuple #[.agg #[.int .i64 0, .int .i64 0, .int .i64 0, .int .u64 0, .int .i64 0, .int .i64 0, .int .i64 0, .int .i64 0, .int .i64 0, .int .i64 0], .int .i64 1]) ∧ Below u.heap.size u w') := fun u hu =>
          keep_bad V Vw.new 0 L M 2 1 1 0 1 (-1) (-1) (-1) (-1) (-1) (-1) ma mn mc mf u hu.on (by omega) (by omega) (HM.out.1.later (Nat.le_refl _) (HBX.out.trans (hu.bel.mono HBX.out.size))) HM.out.2.2.1 HM.out.2.1 HMB.out
        clear hmb
        go_wp2_with fail
        have HS11 : Hid (Ses X (w10.alloc (.cells #[.int .i64 1, .int .i64 1, .int .i64 0, .int .u64 1, .int .i64 (-1), .int .i64 (-1), .int .i64 (-1), .int .i64 (-1), .int .i64 (-1), .int .i64 (-1)] 26)) V Vw.new 0 L M) := HS10.out.later ((Below.refl _ _).alloc (Nat.le_refl _) _)
        refine Calls.mono (HKP.out _ HS11.out) ?_
        rintro e w12 ⟨rfl, hb12⟩
        have HS12 : Hid (Ses X w12 V Vw.new 0 L M) := HS11.out.later hb12
        clear hb12 HKP
        go_wp2_with fail
        obtain ⟨w13, hw13⟩ : ∃ x, w12.alloc (.cells #[.int .i64 0, .int .i64 0, .int .i64 0, .int .u64 0, .int .i64 0, .int .i64 0, .int .i64 0, .int .i64 0, .int .i64 0, .int .i64 0] 26) = x := ⟨_, rfl⟩
        have HS13 : Hid (Ses X w13 V Vw.new 0 L M) := by
          show Ses _ _ _ _ _ _ _
          rw [← hw13]
          exact HS12.out.later ((Below.refl _ _).alloc (Nat.le_refl _) _)
        have HCX13 : Hid (CardAt w13 w12.heap.size 0 0 0 0 0 0 0 0 0 0) := by
          show CardAt _ _ _ _ _ _ _ _ _ _ _ _
          rw [← hw13]
          exact heap_alloc_new _ _
        obtain ⟨xb, hxb⟩ : ∃ x, w12.heap.size = x := ⟨_, rfl⟩
        rw [hxb] at HCX13
        rw [hw13, hxb]
        clear hw13 hxb
        have HBW : Hid (Below w.heap.size w w13) := HBX.out.trans (HS13.out.bel.mono HBX.out.size)
        obtain ⟨b21, hb21⟩ : ∃ b, decide (mn = 21) = b := ⟨_, rfl⟩
        have hd21 : decide ((mn : Int) = 21) = b21 := by rw [← hb21]; congr 1; apply propext; omega
        have he21 : ((mn : Int) == 21) = b21 := by rw [← hd21]; rfl
        have HB21 : Hid (decide (mn = 21) = b21) := hb21
        clear hb21
        go_wp2
        go_loopw [18, 19] (fun ft i wr => ∃ j : Nat, j ≤ mn ∧ i = .int .i64 j ∧ ft = .bool (mayTo mf mn j) ∧ Hid (Below w13.heap.size w13 wr)) (fun _ i _ => mn - (intOf i).toNat)
        case atStart => exact ⟨0, Nat.zero_le _, rfl, by rw [mayTo_zero, HB21.out, he21], Below.refl _ _⟩
        case round =>
          obtain ⟨j, hj, rfl, rfl, HB⟩ := hrel
          by_cases hlt : j < mn
          · have hjn : (j : Int) < (mn : Int) := by omega
            obtain ⟨yb, yo, hma, hyl, hyc⟩ := HM.out.1.resolve_left (by omega)
            have x1 : wr.cell? ⟨yb, yo + j, none⟩ = some (.int .i64 (mf j)) := (World.cell?_of_block (a := ⟨yb, yo + j, none⟩) (((HBW.out.trans (HB.out.mono HBW.out.size))).block yb hyl)).trans (hyc j hlt)
            clear hyl hyc
            have hms := mayTo_succ mf mn j
            subst hma
            obtain ⟨Y, hY⟩ : ∃ Y, mf j = Y := ⟨_, rfl⟩
            obtain ⟨b0, hb0⟩ : ∃ b, mayTo mf mn j = b := ⟨_, rfl⟩
            rw [hY] at x1 hms
            rw [hb0] at hms
            rw [hb0]
            clear hY hb0
            cases b0 with
            | false =>
              have HMS : Hid (mayTo mf mn (j + 1) = false) := by rw [hms]; rfl
              clear hms
              go_wp2
              go_roundw
              case rel => exact ⟨j + 1, by omega, by go_num, by rw [HMS.out], HB⟩
              case measure => simp [intOf]; omega
            | true =>
              by_cases y1 : -1 ≤ Y
              · by_cases y2 : Y < 96
                · have HMS : Hid (mayTo mf mn (j + 1) = true) := by rw [hms, decide_eq_true y1, decide_eq_true y2]; rfl
                  clear hms
                  go_wp2
                  go_roundw
                  case rel => exact ⟨j + 1, by omega, by go_num, by rw [HMS.out], HB⟩
                  case measure => simp [intOf]; omega
                · have HMS : Hid (mayTo mf mn (j + 1) = false) := by rw [hms, decide_eq_true y1, decide_eq_false y2]; rfl
                  clear hms
                  go_wp2
                  go_roundw
                  case rel => exact ⟨j + 1, by omega, by go_num, by first | (rw [HMS.out]; done) | (rw [HMS.out, decide_eq_false (by omega)]), HB⟩
                  case measure => simp [intOf]; omega
              · have HMS : Hid (mayTo mf mn (j + 1) = false) := by rw [hms, decide_eq_false y1]; rfl
                clear hms
                go_wp2
                go_roundw
                case rel => exact ⟨j + 1, by omega, by go_num, by first | (rw [HMS.out]; done) | (rw [HMS.out, decide_eq_false (by omega)]), HB⟩
                case measure => simp [intOf]; omega
          · obtain rfl : j = mn := by omega
            have hall : mayTo mf j j = false := by rw [mayTo_all]; exact HMB.out
            rw [hall]
            clear hall
            have hjn : ¬ (j : Int) < (j : Int) := by omega
            go_wp2
            go_ret
            exact ⟨by first | rfl | simp, HBW.out.trans (HB.out.mono HBW.out.size)⟩
    | false =>
      obtain ⟨_, rfl⟩ := hm7.resolve_left (fun x => absurd x.1 (by decide))
      clear hm7
      go_wp2_with fail
      refine Calls.mono (HRMP.out _ HB7.out) ?_
      rintro e w9 ⟨hm8, hb8⟩
      obtain ⟨_, xa, xn, xc, rfl⟩ := hm8.resolve_left (fun x => absurd x.1 (by decide))
      have HS9 : Hid (Ses X w9 V Vw.new 0 L M) := HS7.out.later hb8
      clear hm8 hb8 c0 c1 c2 c3 c4 c5 c6 c7 c8 c9
      go_wp2_with fail
      refine (refFresh_yes 1 1 _ (.inl rfl)).mono ?_
      rintro e w10 ⟨rfl, hb10⟩
      have HS10 : Hid (Ses X w10 V Vw.new 0 L M) := HS9.out.later hb10
      clear hb10
      by_cases hmb : mayB mf mn = true
      · obtain ⟨h21, hmf⟩ := (mayB_iff mf mn).1 hmb
        have HMF : Hid (∀ i, i < mn → -1 ≤ mf i ∧ mf i < 96) := hmf
        obtain ⟨yb, yo, hma, hyl, hyc⟩ := HM.out.1.resolve_left (by omega)
        have HKP : Hid (∀ u, Ses X u V Vw.new 0 L M → Calls Try.prog 15 #[.pointer (some ⟨V.vb, 0, none⟩), .int .i64 2, .agg #[.int .i64 1, .int .i64 1, .int .i64 0, .int .u64 1, .int .i64 (-1), .int .i64 (-1), .int .i64 (-1), .int .i64 (-1), .int .i64 (-1), .int .i64 (-1)], .slice ma mn mc] u fun e w' => ∃ mr er S' N', e = .returned (.tuple #[keptV er 1 1 0 1 mf mr, .int .i64 er]) ∧ KMore Vw.new M 2 (-1) mf mr er S' ∧ Ses X w' V S' N' L M) := fun u hu => by
          have hbw : Below w.heap.size w u := HBX.out.trans (hu.bel.mono HBX.out.size)
          rw [hma]
          subst h21
          refine (keep_any V Vw.new 0 L M 2 1 1 0 1 (-1) (-1) (-1) (-1) (-1) (-1) yb yo mc mf u hu.on (by omega) (by omega) (by omega) (by omega) (by omega) (.inr ⟨yb, yo, rfl, Nat.lt_of_lt_of_le hyl hbw.size, fun i hi => (World.cell?_of_block (a := ⟨yb, yo + i, none⟩) (hbw.block yb hyl)).trans (hyc i hi)⟩) (fun hm => by have := HVG.out _ hm; omega) HM.out.2.2.2 hmf (fun _ h => absurd rfl h)).mono ?_
          rintro e w' ⟨mr, er, S', N', h1, h2, h3, _, h5⟩
          exact ⟨mr, er, S', N', h1, h2, hu.step h3 h5⟩
        have HSB : Hid (∀ u, Below w.heap.size w u → IntsAt u ma mn mf) := fun u hb => HM.out.1.later (Nat.le_refl _) hb
        have H21 : Hid (mn = 21) := h21
        clear hmb h21 hmf hma hyl hyc
        go_wp2_with fail
        refine Calls.mono (HKP.out _ (HS10.out.later ((Below.refl _ _).alloc (Nat.le_refl _) _))) ?_
        rintro e w12 ⟨mr, er, S2, N2, rfl, hk, hs12⟩
        have HS12 : Hid (Ses X w12 V S2 N2 L M) := hs12
        clear hs12 HKP
        rcases hk.er with he | he
        · subst he
          have HKB : Hid (KeptB (S2.word M) mf mr) := kept_any hk (fun i hi => HMF.out i (by have := H21.out; omega))
          unfold keptV
          rw [if_pos rfl]
          clear hk
          go_wp2_with fail
          obtain ⟨w13, hw13⟩ : ∃ x, w12.alloc (.cells #[.int .i64 1, .int .i64 1, .int .i64 0, .int .u64 1, .int .i64 (mf 0), .int .i64 (mf 1), .int .i64 (mf 2), .int .i64 (mf 3), .int .i64 (mf 4), .int .i64 mr] 26) = x := ⟨_, rfl⟩
          have HS13 : Hid (Ses X w13 V S2 N2 L M) := by
            show Ses _ _ _ _ _ _ _
            rw [← hw13]
            exact HS12.out.later ((Below.refl _ _).alloc (Nat.le_refl _) _)
          have HCX13 : Hid (CardAt w13 w12.heap.size 1 1 0 1 (mf 0) (mf 1) (mf 2) (mf 3) (mf 4) mr) := by
            show CardAt _ _ _ _ _ _ _ _ _ _ _ _
            rw [← hw13]
            exact heap_alloc_new _ _
          obtain ⟨xb, hxb⟩ : ∃ x, w12.heap.size = x := ⟨_, rfl⟩
          rw [hxb] at HCX13
          rw [hw13, hxb]
          clear hw13 hxb
          have HBW : Hid (Below w.heap.size w w13) := HBX.out.trans (HS13.out.bel.mono HBX.out.size)
          have hd21 : decide ((mn : Int) = 21) = true := decide_eq_true (by have := H21.out; omega)
          have he21 : ((mn : Int) == 21) = true := by have := H21.out; simp; omega
          go_wp2
          go_loopw [18, 19] (fun ft i wr => ∃ j : Nat, j ≤ mn ∧ i = .int .i64 j ∧ ft = .bool true ∧ Hid (Below w13.heap.size w13 wr)) (fun _ i _ => mn - (intOf i).toNat)
          case atStart => exact ⟨0, Nat.zero_le _, rfl, by rw [he21], Below.refl _ _⟩
          case round =>
            obtain ⟨j, hj, rfl, rfl, HB⟩ := hrel
            by_cases hlt : j < mn
            · have hjn : (j : Int) < (mn : Int) := by omega
              obtain ⟨yb, yo, hma, hyl, hyc⟩ := HM.out.1.resolve_left (by omega)
              have x1 : wr.cell? ⟨yb, yo + j, none⟩ = some (.int .i64 (mf j)) := (World.cell?_of_block (a := ⟨yb, yo + j, none⟩) (((HBW.out.trans (HB.out.mono HBW.out.size))).block yb hyl)).trans (hyc j hlt)
              clear hyl hyc
              subst hma
              obtain ⟨y1, y2⟩ := HMF.out j (by omega)
              obtain ⟨Y, hY⟩ : ∃ Y, mf j = Y := ⟨_, rfl⟩
              rw [hY] at x1 y1 y2
              clear hY
              go_wp2
              go_roundw
              case rel => exact ⟨j + 1, by omega, by go_num, rfl, HB⟩
              case measure => simp [intOf]; omega
            · obtain rfl : j = mn := by omega
              have hjn : ¬ (j : Int) < (j : Int) := by omega
              have HSW : Hid (Ses X wr V S2 N2 L M) := HS13.out.later HB.out
              have HMAP2 : Hid _ := map_any V S2 N2 L M 1 1 0 1 (mf 0) (mf 1) (mf 2) (mf 3) (mf 4) mr wr HSW.out.on HKB.out.rng.1 HKB.out.rng.2 true ⟨fun _ => HKB.out.may, fun _ => rfl⟩
              have HCW : Hid (CardAt wr xb 1 1 0 1 (mf 0) (mf 1) (mf 2) (mf 3) (mf 4) mr) := HCX13.out.later HB.out
              obtain ⟨z0, z1, z2, z3, z4, z5, z6, z7, z8, z9⟩ := HCW.out.ten
              go_wp2_with fail
              refine Calls.mono (Hid.out HMAP2) ?_
              rintro e w14 ⟨hm14, hb14⟩
              obtain ⟨_, gz, hgz, rfl, hiz⟩ := hm14.resolve_right (fun x => absurd x.1 (by decide))
              have HB14 : Hid (Below wr.heap.size wr w14) := hb14
              have HBZ : Hid (Below w.heap.size w w14) := HBW.out.trans ((HB.out.trans (hb14.mono HB.out.size)).mono HBW.out.size)
              have HSM : Hid (∀ u, Below w14.heap.size w14 u → Calls Try.prog 13 #[.slice (some ⟨gz, 0, none⟩) 21 21, .slice ma j mc] u fun e w' => e = .returned (.bool true) ∧ Below u.heap.size u w') := fun u hb => by
                have h21 := H21.out
                have hI : IntsAt u ma 21 mf := by rw [← h21]; exact HSB.out u (HBZ.out.trans (hb.mono HBZ.out.size))
                have := same_ints (some ⟨gz, 0, none⟩) ma 21 21 mc _ mf u ((irow_ints hiz).later (Nat.le_refl _) hb) hI (by unfold maxLen; omega) (fun i hi => HKB.out.back i hi)
                rw [h21]
                exact this
              obtain ⟨yb, yo, hma, hyl, hyc⟩ := HM.out.1.resolve_left (by have := H21.out; omega)
              have hmc : 21 ≤ mc := by have := HM.out.2.2.2; have := H21.out; omega
              have HSO : Hid (∀ u, Below w14.heap.size w14 u → Calls Try.prog 16 #[.slice (some ⟨yb, yo + 5, none⟩) 16 (mc - 5)] u fun e w' => e = .returned (.bool (decide (0 ≤ mr))) ∧ Below u.heap.size u w') := fun u hb => by
                have hbw : Below w.heap.size w u := HBZ.out.trans (hb.mono HBZ.out.size)
                rw [HKB.out.more]
                have h21 := H21.out
                exact some_any (some ⟨yb, yo + 5, none⟩) 16 (mc - 5) (fun i => mf (5 + i)) u (.inr ⟨yb, yo + 5, rfl, Nat.lt_of_lt_of_le hyl hbw.size, fun i hi => by
                  rw [Nat.add_assoc]
                  exact (World.cell?_of_block (a := ⟨yb, yo + (5 + i), none⟩) (hbw.block yb hyl)).trans (hyc (5 + i) (by omega))⟩) (by unfold maxLen; omega)
              have hsl : ∀ u, (Instr.slice 27 (.slice (some ⟨yb, yo, none⟩) j mc) (some (.int .i64 5)) none none).run Try.prog u = .ok (.slice (some ⟨yb, yo + 5, none⟩) 16 (mc - 5)) u := fun u => by
                rw [H21.out]
                exact slice5 yb yo mc hmc u
              have HC14 : Hid (CardAt w14 xb 1 1 0 1 (mf 0) (mf 1) (mf 2) (mf 3) (mf 4) mr) := HCW.out.later hb14
              clear z0 z1 z2 z3 z4 z5 z6 z7 z8 z9 hm14 hb14 hgz hiz hyl hyc hmc HMAP2
              subst hma
              obtain ⟨bm, hbm⟩ : ∃ b, decide (0 ≤ mr) = b := ⟨_, rfl⟩
              rw [hbm] at HSO
              have z9 := (box_cells HC14.out).2
              have HU14 : Hid (Below w14.heap.size w14 w14) := Below.refl _ _
              go_wp2
              go_region_held3 (fun v' => v'.cell? ⟨xb, 9, none⟩ = some (.int .i64 mr)) (first | go_keep | fail "KEEP")
                (first
                  | (go_at_call 13; refine Calls.mono (HSM.out _ (by first | exact HU14.out | exact HU14.out.drew)) ?_; rintro e w15 ⟨rfl, hb15⟩; have HB15 : Hid (Below w14.heap.size w14 w15) := (by first | exact hb15 | exact (Below.refl _ _).drew.trans hb15); have z9 := (box_cells (HC14.out.later HB15.out)).2; clear hb15)
                  | (go_at_call 16; refine Calls.mono (HSO.out _ (by first | exact HB15.out | exact HB15.out.drew)) ?_; rintro e w16 ⟨rfl, hb16⟩; have HB16 : Hid (Below w14.heap.size w14 w16) := HB15.out.trans (hb16.mono HB15.out.size); have z9 := (box_cells (HC14.out.later HB16.out)).2; clear hb16))
              all_goals
                go_wp2
                go_ret
                exact ⟨by first | rfl | simp, HBZ.out.trans (HB16.out.mono HBZ.out.size)⟩
        · subst he
          unfold keptV
          rw [if_neg (by decide)]
          clear hk
          go_wp2_with fail
          obtain ⟨w13, hw13⟩ : ∃ x, w12.alloc (.cells #[.int .i64 0, .int .i64 0, .int .i64 0, .int .u64 0, .int .i64 0, .int .i64 0, .int .i64 0, .int .i64 0, .int .i64 0, .int .i64 0] 26) = x := ⟨_, rfl⟩
          have HS13 : Hid (Ses X w13 V S2 N2 L M) := by
            show Ses _ _ _ _ _ _ _
            rw [← hw13]
            exact HS12.out.later ((Below.refl _ _).alloc (Nat.le_refl _) _)
          have HCX13 : Hid (CardAt w13 w12.heap.size 0 0 0 0 0 0 0 0 0 0) := by
            show CardAt _ _ _ _ _ _ _ _ _ _ _ _
            rw [← hw13]
            exact heap_alloc_new _ _
          obtain ⟨xb, hxb⟩ : ∃ x, w12.heap.size = x := ⟨_, rfl⟩
          rw [hxb] at HCX13
          rw [hw13, hxb]
          clear hw13 hxb
          have HBW : Hid (Below w.heap.size w w13) := HBX.out.trans (HS13.out.bel.mono HBX.out.size)
          have hd21 : decide ((mn : Int) = 21) = true := decide_eq_true (by have := H21.out; omega)
          have he21 : ((mn : Int) == 21) = true := by have := H21.out; simp; omega
          go_wp2
          go_loopw [18, 19] (fun ft i wr => ∃ j : Nat, j ≤ mn ∧ i = .int .i64 j ∧ ft = .bool true ∧ Hid (Below w13.heap.size w13 wr)) (fun _ i _ => mn - (intOf i).toNat)
          case atStart => exact ⟨0, Nat.zero_le _, rfl, by rw [he21], Below.refl _ _⟩
          case round =>
            obtain ⟨j, hj, rfl, rfl, HB⟩ := hrel
            by_cases hlt : j < mn
            · have hjn : (j : Int) < (mn : Int) := by omega
              obtain ⟨yb, yo, hma, hyl, hyc⟩ := HM.out.1.resolve_left (by omega)
              have x1 : wr.cell? ⟨yb, yo + j, none⟩ = some (.int .i64 (mf j)) := (World.cell?_of_block (a := ⟨yb, yo + j, none⟩) (((HBW.out.trans (HB.out.mono HBW.out.size))).block yb hyl)).trans (hyc j hlt)
              clear hyl hyc
              subst hma
              obtain ⟨y1, y2⟩ := HMF.out j (by omega)
              obtain ⟨Y, hY⟩ : ∃ Y, mf j = Y := ⟨_, rfl⟩
              rw [hY] at x1 y1 y2
              clear hY
              go_wp2
              go_roundw
              case rel => exact ⟨j + 1, by omega, by go_num, rfl, HB⟩
              case measure => simp [intOf]; omega
            · obtain rfl : j = mn := by omega
              have hjn : ¬ (j : Int) < (j : Int) := by omega
              go_wp2
              go_ret
              exact ⟨by first | rfl | simp, HBW.out.trans (HB.out.mono HBW.out.size)⟩
      · have HMB : Hid (mayB mf mn = false) := by show _ = _; simpa using hmb
        have HKP : Hid (∀ u, Ses X u V Vw.new 0 L M → Calls Try.prog 15 #[.pointer (some ⟨V.vb, 0, none⟩), .int .i64 2, .agg #[.int .i64 1, .int .i64 1, .int .i64 0, .int .u64 1, .int .i64 (-1), .int .i64 (-1), .int .i64 (-1), .int .i64 (-1), .int .i64 (-1), .int .i64 (-1)], .slice ma mn mc] u fun e w' => e = .returned (.tuple #[.agg #[.int .i64 0, .int .i64 0, .int .i64 0, .int .u64 0, .int .i64 0, .int .i64 0, .int .i64 0, .int .i64 0, .int .i64 0, .int .i64 0], .int .i64 1]) ∧ Below u.heap.size u w') := fun u hu =>
          keep_bad V Vw.new 0 L M 2 1 1 0 1 (-1) (-1) (-1) (-1) (-1) (-1) ma mn mc mf u hu.on (by omega) (by omega) (HM.out.1.later (Nat.le_refl _) (HBX.out.trans (hu.bel.mono HBX.out.size))) HM.out.2.2.1 HM.out.2.1 HMB.out
        clear hmb
        go_wp2_with fail
        have HS11 : Hid (Ses X (w10.alloc (.cells #[.int .i64 1, .int .i64 1, .int .i64 0, .int .u64 1, .int .i64 (-1), .int .i64 (-1), .int .i64 (-1), .int .i64 (-1), .int .i64 (-1), .int .i64 (-1)] 26)) V Vw.new 0 L M) := HS10.out.later ((Below.refl _ _).alloc (Nat.le_refl _) _)
        refine Calls.mono (HKP.out _ HS11.out) ?_
        rintro e w12 ⟨rfl, hb12⟩
        have HS12 : Hid (Ses X w12 V Vw.new 0 L M) := HS11.out.later hb12
        clear hb12 HKP
        go_wp2_with fail
        obtain ⟨w13, hw13⟩ : ∃ x, w12.alloc (.cells #[.int .i64 0, .int .i64 0, .int .i64 0, .int .u64 0, .int .i64 0, .int .i64 0, .int .i64 0, .int .i64 0, .int .i64 0, .int .i64 0] 26) = x := ⟨_, rfl⟩
        have HS13 : Hid (Ses X w13 V Vw.new 0 L M) := by
          show Ses _ _ _ _ _ _ _
          rw [← hw13]
          exact HS12.out.later ((Below.refl _ _).alloc (Nat.le_refl _) _)
        have HCX13 : Hid (CardAt w13 w12.heap.size 0 0 0 0 0 0 0 0 0 0) := by
          show CardAt _ _ _ _ _ _ _ _ _ _ _ _
          rw [← hw13]
          exact heap_alloc_new _ _
        obtain ⟨xb, hxb⟩ : ∃ x, w12.heap.size = x := ⟨_, rfl⟩
        rw [hxb] at HCX13
        rw [hw13, hxb]
        clear hw13 hxb
        have HBW : Hid (Below w.heap.size w w13) := HBX.out.trans (HS13.out.bel.mono HBX.out.size)
        obtain ⟨b21, hb21⟩ : ∃ b, decide (mn = 21) = b := ⟨_, rfl⟩
        have hd21 : decide ((mn : Int) = 21) = b21 := by rw [← hb21]; congr 1; apply propext; omega
        have he21 : ((mn : Int) == 21) = b21 := by rw [← hd21]; rfl
        have HB21 : Hid (decide (mn = 21) = b21) := hb21
        clear hb21
        go_wp2
        go_loopw [18, 19] (fun ft i wr => ∃ j : Nat, j ≤ mn ∧ i = .int .i64 j ∧ ft = .bool (mayTo mf mn j) ∧ Hid (Below w13.heap.size w13 wr)) (fun _ i _ => mn - (intOf i).toNat)
        case atStart => exact ⟨0, Nat.zero_le _, rfl, by rw [mayTo_zero, HB21.out, he21], Below.refl _ _⟩
        case round =>
          obtain ⟨j, hj, rfl, rfl, HB⟩ := hrel
          by_cases hlt : j < mn
          · have hjn : (j : Int) < (mn : Int) := by omega
            obtain ⟨yb, yo, hma, hyl, hyc⟩ := HM.out.1.resolve_left (by omega)
            have x1 : wr.cell? ⟨yb, yo + j, none⟩ = some (.int .i64 (mf j)) := (World.cell?_of_block (a := ⟨yb, yo + j, none⟩) (((HBW.out.trans (HB.out.mono HBW.out.size))).block yb hyl)).trans (hyc j hlt)
            clear hyl hyc
            have hms := mayTo_succ mf mn j
            subst hma
            obtain ⟨Y, hY⟩ : ∃ Y, mf j = Y := ⟨_, rfl⟩
            obtain ⟨b0, hb0⟩ : ∃ b, mayTo mf mn j = b := ⟨_, rfl⟩
            rw [hY] at x1 hms
            rw [hb0] at hms
            rw [hb0]
            clear hY hb0
            cases b0 with
            | false =>
              have HMS : Hid (mayTo mf mn (j + 1) = false) := by rw [hms]; rfl
              clear hms
              go_wp2
              go_roundw
              case rel => exact ⟨j + 1, by omega, by go_num, by rw [HMS.out], HB⟩
              case measure => simp [intOf]; omega
            | true =>
              by_cases y1 : -1 ≤ Y
              · by_cases y2 : Y < 96
                · have HMS : Hid (mayTo mf mn (j + 1) = true) := by rw [hms, decide_eq_true y1, decide_eq_true y2]; rfl
                  clear hms
                  go_wp2
                  go_roundw
                  case rel => exact ⟨j + 1, by omega, by go_num, by rw [HMS.out], HB⟩
                  case measure => simp [intOf]; omega
                · have HMS : Hid (mayTo mf mn (j + 1) = false) := by rw [hms, decide_eq_true y1, decide_eq_false y2]; rfl
                  clear hms
                  go_wp2
                  go_roundw
                  case rel => exact ⟨j + 1, by omega, by go_num, by first | (rw [HMS.out]; done) | (rw [HMS.out, decide_eq_false (by omega)]), HB⟩
                  case measure => simp [intOf]; omega
              · have HMS : Hid (mayTo mf mn (j + 1) = false) := by rw [hms, decide_eq_false y1]; rfl
                clear hms
                go_wp2
                go_roundw
                case rel => exact ⟨j + 1, by omega, by go_num, by first | (rw [HMS.out]; done) | (rw [HMS.out, decide_eq_false (by omega)]), HB⟩
                case measure => simp [intOf]; omega
          · obtain rfl : j = mn := by omega
            have hall : mayTo mf j j = false := by rw [mayTo_all]; exact HMB.out
            rw [hall]
            clear hall
            have hjn : ¬ (j : Int) < (j : Int) := by omega
            go_wp2
            go_ret
            exact ⟨by first | rfl | simp, HBW.out.trans (HB.out.mono HBW.out.size)⟩
  · have HRT : Hid _ := Cd.refRight_no k l s v d0 d1 d2 d3 d4 m w1 hR
    clear hR
    go_wp2_with fail
    refine Calls.mono (Hid.out HRT) ?_
    rintro e w2 ⟨rfl, hb⟩
    have HB2 : Hid (Below w.heap.size w w2) := HBX.out.trans ((HB1.out.trans (hb.mono HB1.out.size)).mono HBX.out.size)
    clear hb
    go_wp2
    go_ret
    exact ⟨rfl, HB2.out⟩
set_option maxRecDepth 100000 in
theorem lifted (os : Os) (started : os.Started) (H : Type) (enc : TypeId × Value → H) :
    ReturnsInHanded {} Try.checked os 3 .any (Rows.bodyMapsSpec.pre6 enc Try.prog Try.f3 Rows.bodyMapsRow.domain false) (Rows.bodyMapsSpec.post enc Try.prog Try.f3 false true false false) := by
  refine returnsInHanded_of_change (C := Try.checked) own started (by kernel_rfl) Try.func3
    (ChangeSpec.witness6 (enc := enc) (C := Try.checked) false ⟨#[], #[.slice none 0 0, .agg #[.int .i64 0, .int .i64 0, .int .i64 0, .int .u64 0, .int .i64 0, .int .i64 0, .int .i64 0, .int .i64 0, .int .i64 0, .int .i64 0], .slice none 0 0], []⟩ 8 (by kernel_rfl) (by kernel_rfl) (by kernel_rfl) (by kernel_rfl)) ?_
  intro W base args ds gs before hval0 hW hcnd _
  have hval : ∀ (j : Nat) t v, Try.f3.params[j]? = some t → args[j]? = some v → Value.okWide Try.prog W .any base t v := hval0
  have hW' := hW
  obtain ⟨p, q, hA0, hV, rfl, hfz, hnd⟩ := hW
  have hA : DataW.TrodAll enc Try.prog W 0 (fun _ => true) true Try.f3.params.toList args.toList ds p := hA0
  rw [Try.params3] at hA hval
  obtain ⟨v0, vs0, d0, ds0, p0, q0, hargs, rfl, rfl, h0, r0⟩ := trodAll_cons hA
  obtain ⟨v1, vs1, d1, ds1, p1, q1, rfl, rfl, rfl, h1, r1⟩ := trodAll_cons r0
  obtain ⟨v2, vs2, d2, ds2, p2, q2, rfl, rfl, rfl, h2, r2⟩ := trodAll_cons r1
  obtain ⟨rfl, rfl, rfl⟩ := trodAll_nil r2
  obtain rfl : args = #[v0, v1, v2] := by cases args; simp_all
  obtain ⟨rfl, rfl⟩ := trodVars_none hV
  have k0 := h0
  have lt0 : ∀ x ∈ p0, x.block < W.heap.size := by obtain ⟨m, hm⟩ := k0; exact DataW.trod_lt m _ _ _ hm
  obtain ⟨a0, len0, cap0, rfl⟩ := okWide_slice Try.underlying22 (hval 0 22 v0 rfl rfl)
  obtain ⟨cs0, hl0, w0⟩ := open_chgs rfl h0
  subst hl0
  have k1 := h1
  have lt1 : ∀ x ∈ p1, x.block < W.heap.size := by obtain ⟨m, hm⟩ := k1; exact DataW.trod_lt m _ _ _ hm
  obtain ⟨a1, rfl, w1⟩ := open_bcard (hval 1 26 v1 rfl rfl) h1
  have k2 := h2
  have lt2 : ∀ x ∈ p2, x.block < W.heap.size := by obtain ⟨m, hm⟩ := k2; exact DataW.trod_lt m _ _ _ hm
  obtain ⟨fu2, hf2⟩ := h2
  obtain ⟨x2, len2, cap2, rfl⟩ := okWide_slice Try.underlying27 (hval 2 27 v2 rfl rfl)
  obtain ⟨a2, b2, c2, f2, w2⟩ := open_nums (v := .slice x2 len2 cap2) hf2
  cases w2.val
  clear hA0 hval0
  refine (walk a0 cap0 cs0 a1 x2 len2 cap2 f2 W w0 w1 w2).mono fun e W' ⟨he, bel⟩ => ?_
  subst he
  exact ⟨_, rfl, _, _, _, [], _, [], hW', trodAll_mk1 (shut_bool Try.underlying4 _), (trodAll_cons_mk (Below.trod laidOut (by kernel_rfl) (of_decide_eq_true (by kernel_rfl)) k0 bel lt0) (trodAll_cons_mk (Below.trod laidOut (by kernel_rfl) (of_decide_eq_true (by kernel_rfl)) k1 bel lt1) (trodAll_cons_mk (Below.trod laidOut (by kernel_rfl) (of_decide_eq_true (by kernel_rfl)) k2 bel lt2) trodAll_mk0))), rfl, bel.frame _, fun h => by cases h⟩

theorem over : Rows.bodyMapsRow.holds Try.pinned (OpenSpec.ofChange Rows.bodyMapsSpec) :=
  OpenClaim.holds_of_wide 3 Try.f3 rfl rfl rfl rfl rfl rfl rfl ⟨rfl, rfl, rfl, rfl, rfl⟩ rfl rfl rfl rfl rfl (by kernel_rfl) Try.func3 (by kernel_rfl)
    (of_decide_eq_true (by kernel_rfl)) (by unfold Func.isWrapper; first | (rw [if_pos (by decide +kernel)]; kernel_rfl) | (rw [if_neg (by decide +kernel)]; exact ⟨rfl, rfl⟩))
    (fun os started H enc _ => lifted os started H enc)

theorem proved : Rows.BodyMapsSaid := over
#print axioms proved
end Go.Proofs.Ytdjnkibnnjobpaa.bodyMaps
