/- What is proved: the given statement ViewMakesSaid: for every slice of changes and every script the law returns true, and its arguments read afterwards as before. There are no further conditions. -/
import Derived.Test.YtomlbifplliakaaGreatRows
import Derived.Test.YtomlbifplliakaaGreatMk
import Derived.Deep.RegionHeld3
import Derived.Maps.AppendAt
namespace Go.Proofs.YtomlbifplliakaaGreat.viewMakes
open Go.RowKit Go.Maps Go.ChangeMaps Go.ChangeShapes Go.WideShapes Go.ChangeAt Go.Deep Go.Joins
set_option linter.unusedVariables false
set_option linter.unusedSimpArgs false

set_option maxHeartbeats 8000000 in
set_option maxRecDepth 100000 in
theorem walk (ca : Option Addr) (ccap : Nat) (sp : List Chg) (aa : Option Addr) (ac : Nat) (as_ : List Vop) (w : World) (hcs : ChgIn w ca ccap sp) (ha : OpsIn w aa ac as_) :
    Calls Tryz.prog 3 #[.slice ca sp.length ccap, .slice aa as_.length ac] w fun e w' => e = .returned (.bool true) ∧ Below w.heap.size w w' := by
  have HI : Hid (∀ w1, Below w.heap.size w w1 → Calls Tryz.prog 6 #[.slice ca sp.length ccap] w1 fun e w' => ∃ G f, e = .returned (.slice (some ⟨G, 0, none⟩) 2824 2824) ∧ RowIs w' G f ∧ (∀ i, i < 2824 → 0 ≤ f i ∧ f i ≤ 18446744073709551615) ∧ (sp.length = 0 → f = headN) ∧ w1.heap.size ≤ G ∧ Below w1.heap.size w1 w') := fun w1 hb =>
    imageSp_any ca sp.length ccap sp w1 (hcs.at_.later (Nat.le_refl _) hb) rfl (fun i hi => bounds_u64 (hcs.ok i hi).2) (fun i hi => (hcs.ok i hi).1) (Nat.le_trans hcs.le hcs.max)
  have HA : Hid (OpsIn w aa ac (as_.take 60)) := ha.early
  have EA : Hid (∀ w', Calls Tryz.prog 10 #[.slice aa as_.length ac] w' fun e w'' => e = .returned (.slice aa (as_.take 60).length ac) ∧ w'' = w') := fun w' => early_any w w' aa ac as_ ha
  obtain ⟨las, hlas⟩ : ∃ n, as_.length = n := ⟨_, rfl⟩
  have h60a : (as_.take 60).length ≤ 60 := by rw [List.length_take]; omega
  obtain ⟨xs, hxs⟩ : ∃ l, as_.take 60 = l := ⟨_, rfl⟩
  rw [hlas] at EA ⊢
  rw [hxs] at HA EA h60a
  obtain ⟨na, hna⟩ : ∃ n, xs.length = n := ⟨_, rfl⟩
  have HNA : Hid (xs.length = na) := hna
  rw [hna] at EA h60a
  obtain ⟨i0, hi0, hz0, hz1, hz2⟩ := info_parts Tryz.info22
  clear hcs ha hlas hxs hna
  go_enter Tryz.func3, Tryz.ntmps3
  go_wp2_with fail
  refine (lives_any _).mono ?_
  rintro e w0 ⟨rfl, hb0⟩
  have HB0 : Hid (Below w.heap.size w w0) := hb0
  clear hb0
  go_wp2_with fail
  refine Calls.mono (HI.out _ HB0.out) ?_
  rintro e w1 ⟨G, f, rfl, hr, hfo, _, _, hb1⟩
  have HB1 : Hid (Below w.heap.size w w1) := HB0.out.trans (hb1.mono HB0.out.size)
  have HF : Hid (∀ i, i < 2824 → 0 ≤ f i ∧ f i ≤ 18446744073709551615) := hfo
  have HRW : Hid (RowIs w1 G f) := hr
  have HLD : Hid _ := load_img G f w1 hr hfo
  have HRN : Hid (∀ w', Below w.heap.size w w' → RowIs w' G f → Calls Tryz.prog 9 #[.slice (some ⟨G, 0, none⟩) 2824 2824] w' fun e w'' => ∃ R : RLay, e = .returned (.pointer (some ⟨R.rb, 0, none⟩)) ∧ RefIs w w'' R ∧ (∀ j ∈ R.blocks, w'.heap.size ≤ j) ∧ Below w'.heap.size w' w'') := fun w' h1 h2 => rnew w w' G f h1 h2 hfo
  obtain ⟨Ln, hLn⟩ : ∃ n : Nat, 2824 = n := ⟨_, rfl⟩
  have HLN : Hid (2824 = Ln) := hLn
  have hLb : Ln ≤ 3000 := by omega
  rw [hLn] at HLD HRN ⊢
  clear hr hfo hb1 hLn
  go_wp2_with fail
  refine Calls.mono (Hid.out HLD) ?_
  rintro e w2 ⟨L, rfl, hm2, hL, hb2⟩
  obtain ⟨M, hM⟩ : ∃ M, fresh (imgL f) = M := ⟨_, rfl⟩
  have HMS : Hid (M.stops = false ∧ M.sure.length = 2824 ∧ M.calls = 0) := by rw [← hM]; exact ⟨rfl, by rw [fresh_sure]; exact imgL_len f, rfl⟩
  rw [hM] at hm2
  have HM2 : Hid (MemIs w2 L M) := hm2
  have HB2 : Hid (Below w.heap.size w w2) := HB1.out.trans (hb2.mono HB1.out.size)
  have HLL : Hid (∀ j ∈ L.blocks, w.heap.size ≤ j) := fun j hj => by have := hL j hj; have := HB1.out.size; omega
  have HR2 : Hid (RowIs w2 G f) := HRW.out.later (Nat.le_refl _) hb2
  clear hM hm2 hL hb2 HLD HB1 HRW HF
  go_wp2_with fail
  refine (vnew_yes L M w2 HM2.out HMS.out.2.1).mono ?_
  rintro e w3 ⟨rfl, hv3, hb3⟩
  obtain ⟨X, hX⟩ : ∃ A, newLay L.mb w2.heap.size = A := ⟨_, rfl⟩
  rw [hX] at hv3
  have HXX : Hid (X.vb = w2.heap.size ∧ X.mb = L.mb) := by rw [← hX]; exact ⟨rfl, rfl⟩
  have HXL : Hid (∀ j ∈ X.all, w2.heap.size ≤ j) := by rw [← hX]; exact fun j hj => by simp [newLay, VLay.all, VLay.blocks] at hj; omega
  have HV3 : Hid (ViewIs w3 X Vw.new 0) := hv3
  have HB3 : Hid (Below w2.heap.size w2 w3) := hb3
  rw [← HXX.out.1]
  clear hv3 hb3 hX
  go_wp2_with fail
  refine Calls.mono (HRN.out _ (HB2.out.trans (HB3.out.mono HB2.out.size)) (HR2.out.later (Nat.le_refl _) HB3.out)) ?_
  rintro e w4 ⟨R0, rfl, hr4, hn4, hb4⟩
  have HP4 : Hid (Pair w w4 X Vw.new 0 L M R0) := by
    have s2 := HB2.out.size
    have s3 := HB3.out.size
    refine ⟨HV3.out.later hb4, (HM2.out.later HB3.out).later hb4, HXX.out.2, hr4, fun b hb hb2 => ?_, fun j hj => ⟨fun hj2 => ?_, fun hj2 => ?_⟩, fun j hj => ?_, HLL.out⟩
    · have := HM2.out.all_lt b hb; have := HXL.out b hb2; omega
    · have := hn4 j hj; have := HV3.out.all_lt j hj2; omega
    · have := hn4 j hj; have := HM2.out.all_lt j hj2; omega
    · have := HXL.out j hj; omega
  clear hr4 hn4 hb4 HV3 HB3 HM2 HB2 HR2 HRN HXL
  go_wp2_with fail
  refine Calls.mono (EA.out _) ?_
  rintro e w' ⟨rfl, hw⟩
  obtain rfl := hw.symm
  go_wp2
  go_loopw [9] (fun i wr => ∃ (k : Nat) (V : VLay) (S : Vw) (N : Nat) (R : RLay), k ≤ na ∧ i = .int .i64 k ∧ Hid (Pair w wr V S N L M R ∧ V.vb = X.vb ∧ R.rb = R0.rb ∧ N = 16 * k)) (fun i _ => na - (intOf i).toNat)
  case atStart => exact ⟨0, X, Vw.new, 0, R0, Nat.zero_le _, rfl, HP4.out, rfl, rfl, rfl⟩
  case round =>
    obtain ⟨k, V, S, N, R, hk, rfl, HR⟩ := hrel
    by_cases hlt : k < na
    · obtain ⟨b, off, rfl, hbl, hs⟩ := HA.out.at_.resolve_left (fun e => by have := HNA.out; rw [e] at this; simp at this; omega)
      obtain ⟨hc, hvo⟩ := hs k (by have := HNA.out; omega)
      obtain ⟨o, ho⟩ : ∃ o, xs.getD k noVop = o := ⟨_, rfl⟩
      rw [ho] at hc hvo
      have HVO : Hid (VopIn w o) := hvo
      have hkn : (k : Int) < (na : Int) := by omega
      have P0 := HR.out.1
      have hcell : ∀ j, j < 15 → wr.cell? ⟨b, off + k * 15 + j, none⟩ = o.vals[j]? := fun j hj => (P0.ref.bel.cell (p := ⟨b, off + k * 15 + j, none⟩) hbl).trans (hc j hj)
      obtain ⟨z0, z1, z2, z3, z4, z5, z6, z7, z8, z9, z10, z11, z12, z13, z14⟩ := cells_of hcell
      have HST : Hid (Calls Tryz.prog 11 #[.pointer (some ⟨X.vb, 0, none⟩), .pointer (some ⟨R0.rb, 0, none⟩), .agg #[.int .i64 o.kind, .int .i64 o.at_, .int .u64 o.v, .int .i64 o.c.k, .int .i64 o.c.l, .int .i64 o.c.s, .int .u64 o.c.v, .int .i64 o.c.d0, .int .i64 o.c.d1, .int .i64 o.c.d2, .int .i64 o.c.d3, .int .i64 o.c.d4, .int .i64 o.c.m, .slice o.la o.ln o.lc, .slice o.na o.nn o.nc]] wr fun e w' => SomeBool e ∧ ∃ V' S' R', Pair w w' V' S' (16 * (k + 1)) L M R' ∧ V'.vb = X.vb ∧ R'.rb = R0.rb) := by
        have := step_any w wr V S N L M R o P0 HVO.out (by have := HR.out.2.2.2; omega)
        rw [HR.out.2.1, HR.out.2.2.1] at this
        refine this.mono fun e w' ⟨h1, V', S', R', h2, h3, h4, _⟩ => ⟨h1, V', S', R', by have e := HR.out.2.2.2; rw [e] at h2; exact h2, h3.trans HR.out.2.1, h4.trans HR.out.2.2.1⟩
      clear hc hs hvo ho hcell P0
      go_wp2_with (first
        | (go_at_call 11; refine Calls.mono (Hid.out HST) ?_; rintro e v2 ⟨⟨x_, rfl⟩, V', S', R', h2, h3, h4⟩; have HP2 : Hid (Pair w v2 V' S' (16 * (k + 1)) L M R' ∧ V'.vb = X.vb ∧ R'.rb = R0.rb ∧ 16 * (k + 1) = 16 * (k + 1)) := ⟨h2, h3, h4, rfl⟩; clear h2 h3 h4 z0 z1 z2 z3 z4 z5 z6 z7 z8 z9 z10 z11 z12 z13 z14)
        | go_in)
      go_roundw
      case rel => exact ⟨k + 1, V', S', 16 * (k + 1), R', by omega, by go_num, HP2.out.1, HP2.out.2.1, HP2.out.2.2.1, rfl⟩
      case measure => simp [intOf]; omega
    · have hge : ¬ ((k : Int) < (na : Int)) := by omega
      have HP : Hid (Pair w wr V S N L M R) := HR.out.1
      have HVX : Hid (V.vb = X.vb) := HR.out.2.1
      have HN1000 : Hid (N < 1000) := by have := HR.out.2.2.2; show N < 1000; omega
      clear HR hlt HP4
      obtain ⟨w5, hw5⟩ : ∃ W, wr = W := ⟨_, rfl⟩
      rw [hw5] at HP ⊢
      clear hw5
      obtain ⟨fw, hfw⟩ : ∃ g : Nat → Int, (fun i : Nat => S.word M (i : Int)) = g := ⟨_, rfl⟩
      have HFW : Hid (∀ i : Nat, fw i = S.word M (i : Int)) := fun i => by rw [← hfw]
      clear hfw
      go_wp2
      go_loopw [10, 11] (fun v i wr => ∃ q : Nat, q ≤ Ln ∧ i = .int .i64 q ∧ Hid (wr.ownsRow w5.heap.size 35 1 v q (rowI fw q)) ∧ Hid (Below w5.heap.size w5 wr)) (fun _ i _ => Ln - (intOf i).toNat)
      case atStart => exact ⟨0, Nat.zero_le _, rfl, World.ownsRow_nil _ _ _ _, Below.refl _ _⟩
      case round =>
        obtain ⟨q, hq, rfl, HO, HB⟩ := hrel
        by_cases hlt : q < Ln
        · have hqn : (q : Int) < (Ln : Int) := by omega
          have HRD : Hid (Calls Tryz.prog 12 #[.pointer (some ⟨X.vb, 0, none⟩), .int .i64 q] wr fun e w' => e = .returned (.int .u64 (fw q)) ∧ w' = wr) := by
            have P1 := HP.out.later HB.out
            have := vread_any V S N L M q wr P1.view P1.mem P1.mb (WalkArith.wf_i64 (by omega))
            rw [HVX.out, ← HFW.out q] at this
            exact this
          obtain ⟨va, vc, rfl, _⟩ := ownsRow_form0 HO.out
          have HO1 : Hid (wr.ownsRow w5.heap.size 35 1 (.slice va q vc) q (rowI fw q)) := HO.out
          have HRS : Hid (rowI fw q ++ [.int .u64 (fw q)] = rowI fw (q + 1)) := rowI_snoc fw q
          obtain ⟨Z, hZ⟩ : ∃ Z, fw q = Z := ⟨_, rfl⟩
          rw [hZ] at HRD HRS
          clear hZ HO
          go_wp2_with (first
            | (go_at_call 12; refine Calls.mono (Hid.out HRD) ?_; rintro e w' ⟨rfl, hw⟩; obtain rfl := hw.symm)
            | (at_builtin; refine wpList_append_own_at _ rfl _ _ 25 rfl w5.heap.size 35 i0 (.int .u64 0) 1 8 Tryz.underlying25 hi0 hz0 hz1 hz2 rfl (by decide) (.slice va q vc) q _ rfl (HO1.out.alloc _) ⟨wr.heap.size, 0, none⟩ 1 1 [.int .u64 Z] rfl rfl ?c1 ?c2 ?c3 ?c4 ?c5 ?_)
            | go_in)
          case c1 =>
            intro j u hj
            match j, hj with
            | 0, hj => simp at hj; subst hj; simp [Addr.add]
          case c2 => intro u hu; simp at hu; subst hu; rfl
          case c3 => unfold maxLen; omega
          case c4 => omega
          case c5 => have := HB.out.size; simp; omega
          intro v' w7 hown' hgrow _ _
          rw [HRS.out] at hown'
          have HO7 : Hid (w7.ownsRow w5.heap.size 35 1 v' (q + 1) (rowI fw (q + 1))) := hown'
          have HB7 : Hid (Below w5.heap.size w5 w7) := (HB.out.alloc HB.out.size _).grown hgrow (by have := HB.out.size; simp; omega) (fun j e => by
            have h1 := HO1.out
            obtain ⟨_, h1⟩ := h1
            rcases h1 with ⟨h2, _⟩ | ⟨g, cap, cur, h2, h3, _⟩
            · cases h2; simp [Value.ownBlock] at e
            · cases h2; simp [Value.ownBlock] at e; omega)
          clear hown' hgrow HO1 HRS
          go_wp2
          go_roundw
          case rel => exact ⟨q + 1, by omega, by go_num, HO7.out, HB7.out⟩
          case measure => simp [intOf]; omega
        · have hge2 : ¬ ((q : Int) < (Ln : Int)) := by omega
          have hqL : q = Ln := by omega
          obtain ⟨wa, wc, rfl, hwu, hwb⟩ := row_words HO.out
          have HWU : Hid (UAt wr wa q fw) := hwu
          have HWB : Hid (∀ b, wa.map (·.block) = some b → w5.heap.size ≤ b) := fun b e => (hwb b e).1
          have HQL : Hid (q = Ln) := hqL
          have hq3 : q ≤ 3000 := by omega
          have P1 := HP.out.later HB.out
          have HP1 : Hid (Pair w wr V S N L M R) := P1
          have HCHG : Hid (Calls Tryz.prog 13 #[.pointer (some ⟨X.vb, 0, none⟩)] wr fun e w' => ∃ v, e = .returned v ∧ OwnChg w' wr.heap.size v (S.changes M) ∧ Below wr.heap.size wr w') := by
            have := vchanges_any V S N L M wr P1.view P1.mem P1.mb (by have := HN1000.out; omega)
            rw [HVX.out] at this
            exact this
          have HGD : Hid (Good S M (S.changes M)) := good_changes P1.view
          have hlen := changes_len S M
          obtain ⟨cs, hcs⟩ : ∃ c, S.changes M = c := ⟨_, rfl⟩
          have HCSE : Hid (S.changes M = cs) := hcs
          rw [hcs] at HCHG HGD hlen
          obtain ⟨nc, hnc⟩ : ∃ c, cs.length = c := ⟨_, rfl⟩
          have HNC : Hid (cs.length = nc) := hnc
          rw [hnc] at hlen
          clear hwu hwb hqL P1 HO hcs hnc hlt hq
          go_wp2_with fail
          refine Calls.mono (Hid.out HCHG) ?_
          rintro e w6 ⟨v, rfl, hch, hb6⟩
          obtain ⟨ya, yc, rfl, hyc, hyat, hyb⟩ := OwnChg.at hch
          have HMID : Hid (Mid w w6 V S N L M ya cs wa q fw) := by
            have P := HP1.out
            have P6 := P.later hb6
            refine ⟨P6.view, P6.mem, P6.mb, P.vl, P.lowL, P6.ref.bel, hyat, fun b e hm => ?_, HWU.out.later (Nat.le_refl _) hb6, fun b e hm => ?_⟩
            · have := (hyb b e).1; have := P.mem.all_lt b hm; omega
            · have := HWB.out b e; have := HP.out.mem.all_lt b hm; omega
          have hyc2 : nc ≤ yc := by have := HNC.out; omega
          rw [HNC.out]
          clear hch hb6 hyat hyb hyc HCHG HWU HWB HP1 HB HP
          go_wp2
          go_loopw [13] (fun i wr => ∃ (k : Nat) (M' : Mem), k ≤ nc ∧ i = .int .i64 k ∧ Hid (Mid w wr V S N L M' ya cs wa q fw ∧ Put M cs k M')) (fun i _ => nc - (intOf i).toNat)
          case atStart => exact ⟨0, M, Nat.zero_le _, rfl, HMID.out, put_zero HMS.out.1 HMS.out.2.1⟩
          case round =>
            obtain ⟨j, M', hj, rfl, HR⟩ := hrel
            by_cases hlt : j < nc
            · have hjn : (j : Int) < (nc : Int) := by omega
              have hjl : j < cs.length := by have := HNC.out; omega
              have HMD : Hid (Mid w wr V S N L M' ya cs wa q fw) := HR.out.1
              obtain ⟨hput, herr⟩ := HR.out.2.step HGD.out hjl
              have hopen := HGD.out.open_ j hjl
              have HRISE : Hid (∀ i, i < j → (cs.getD i (0, 0)).1 < (cs.getD j (0, 0)).1) := fun i hi => HGD.out.rise i j hi hjl
              obtain ⟨b, o, rfl, hbl, hcc⟩ := HMD.out.chg.resolve_left (fun e => by rw [e] at hjl; simp at hjl)
              obtain ⟨x1, x2⟩ := hcc j hjl
              obtain ⟨K, hK⟩ : ∃ K, (cs.getD j (0, 0)).1 = K := ⟨_, rfl⟩
              obtain ⟨Z, hZ⟩ : ∃ Z, (cs.getD j (0, 0)).2 = Z := ⟨_, rfl⟩
              have hKb : (Lit.int .i64 K).wf = true := by
                rw [hK] at hopen; unfold openI at hopen; exact WalkArith.wf_i64 (by omega)
              have hZb : (Lit.int .u64 Z).wf = true := by
                have e := HGD.out.val j hjl
                rw [hZ] at e
                rw [e]
                have hw := word_ok HMID.out.view HMID.out.mem (cs.getD j (0, 0)).1
                exact WalkArith.wf_u64 hw
              have HPUT : Hid (Put M cs (j + 1) (M'.store K Z)) := by rw [hK, hZ] at hput; exact hput
              have HSTO : Hid (∀ w', Mid w w' V S N L M' (some ⟨b, o, none⟩) cs wa q fw → Calls Tryz.prog 14 #[.pointer (some ⟨L.mb, 0, none⟩), .int .i64 K, .int .u64 Z] w' fun e w'' => e = .returned (.int .i64 0) ∧ Mid w w'' V S N L (M'.store K Z) (some ⟨b, o, none⟩) cs wa q fw) := fun w' h => by
                have := store_any L M' K Z w' h.mem (by have := HR.out.2.calls; have := HMS.out.2.2; omega) hKb hZb
                rw [hK] at herr
                rw [herr] at this
                exact this.mono fun _ _ ⟨h1, h2, h3⟩ => ⟨h1, h.step h2 h3⟩
              have HOPN : Hid (∀ w', Calls Tryz.prog 15 #[.int .i64 K] w' fun e w'' => e = .returned (.bool true) ∧ w'' = w') := fun w' => by
                have := open_any K w'
                rw [(openB_iff K).2 (by rw [hK] at hopen; exact hopen)] at this
                exact this
              rw [hK] at x1 HRISE
              rw [hZ] at x2
              have HX1 : Hid (∀ w' M2, Mid w w' V S N L M2 (some ⟨b, o, none⟩) cs wa q fw → w'.cell? ⟨b, o + j * 2, none⟩ = some (.int .i64 K) ∧ w'.cell? ⟨b, o + j * 2 + 1, none⟩ = some (.int .u64 Z)) := fun w' M2 h => by
                obtain ⟨_, _, e, _, h2⟩ := h.chg.resolve_left (fun e => by rw [e] at hjl; simp at hjl)
                cases e
                have := h2 j hjl
                rw [hK, hZ] at this
                exact this
              by_cases h0 : j = 0
              · subst h0
                have HMD' : Hid (Mid w wr.drew V S N L M' (some ⟨b, o, none⟩) cs wa q fw) := HMD.out.later (Below.refl _ _).drew
                obtain ⟨x1, x2⟩ := HX1.out _ _ HMD'.out
                have hn0 : (0 : Int) < (nc : Int) := by omega
                clear hput herr hopen hcc hK hZ hjl HR HRISE
                simp only [Nat.zero_mul, Nat.add_zero] at x1 x2 HX1
                go_wp2_with fail
                refine wp_region_held_drew (S := (fun v' => v'.cell? ⟨b, o, none⟩ = some (.int .i64 K) ∧ v'.cell? ⟨b, o + 1, none⟩ = some (.int .u64 Z))) (by kernel_rfl) ?_ (fun hHeld => ?_)
                · exact ⟨x1, x2⟩
                refine wpAnyH_take (i := 0) (oi := ?oi_0) (v := ?v_0) ?hi_0 ?hs_0 ?hf_0 ?hr_0 ?hQ_0 ?hy_0 ?hS_0 ?rest_0
                case hi_0 => simp only [List.getElem?_toArray, List.getElem?_cons_succ, List.getElem?_cons_zero] <;> rfl
                case hs_0 => kernel_rfl
                case hf_0 => kernel_rfl
                case hr_0 => kernel_rfl
                case hQ_0 => exact fun _ _ _ h => h
                case hS_0 => assumption
                case hy_0 =>
                  refine Or.inl ⟨by rfl, ?_⟩
                  intro w hSw
                  (try dsimp only at hSw)
                  go_simp
                  try with_reducible rfl
                try simp only [Act.put, List.setIfInBounds_toArray, List.set_cons_zero, List.set_cons_succ]
                refine wpAnyH_take (i := 1) (oi := ?oi_1) (v := ?v_1) ?hi_1 ?hs_1 ?hf_1 ?hr_1 ?hQ_1 ?hy_1 ?hS_1 ?rest_1
                case hi_1 => simp only [List.getElem?_toArray, List.getElem?_cons_succ, List.getElem?_cons_zero] <;> rfl
                case hs_1 => kernel_rfl
                case hf_1 => kernel_rfl
                case hr_1 => kernel_rfl
                case hQ_1 => exact fun _ _ _ h => h
                case hS_1 => assumption
                case hy_1 =>
                  refine Or.inl ⟨by rfl, ?_⟩
                  intro w hSw
                  (try dsimp only at hSw)
                  go_simp
                  try with_reducible rfl
                try simp only [Act.put, List.setIfInBounds_toArray, List.set_cons_zero, List.set_cons_succ]
                refine wpAnyH_take (i := 2) (oi := ?oi_2) (v := ?v_2) ?hi_2 ?hs_2 ?hf_2 ?hr_2 ?hQ_2 ?hy_2 ?hS_2 ?rest_2
                case hi_2 => simp only [List.getElem?_toArray, List.getElem?_cons_succ, List.getElem?_cons_zero] <;> rfl
                case hs_2 => kernel_rfl
                case hf_2 => kernel_rfl
                case hr_2 => kernel_rfl
                case hQ_2 => exact fun _ _ _ h => h
                case hS_2 => assumption
                case hy_2 =>
                  refine Or.inl ⟨by rfl, ?_⟩
                  intro w hSw
                  (try dsimp only at hSw)
                  go_simp
                  try with_reducible rfl
                try simp only [Act.put, List.setIfInBounds_toArray, List.set_cons_zero, List.set_cons_succ]
                refine wpAnyH_take (i := 3) (oi := ?oi_3) (v := ?v_3) ?hi_3 ?hs_3 ?hf_3 ?hr_3 ?hQ_3 ?hy_3 ?hS_3 ?rest_3
                case hi_3 => simp only [List.getElem?_toArray, List.getElem?_cons_succ, List.getElem?_cons_zero] <;> rfl
                case hs_3 => kernel_rfl
                case hf_3 => kernel_rfl
                case hr_3 => kernel_rfl
                case hQ_3 => exact fun _ _ _ h => h
                case hS_3 => assumption
                case hy_3 =>
                  refine Or.inl ⟨by rfl, ?_⟩
                  intro w hSw
                  (try dsimp only at hSw)
                  go_simp
                  try with_reducible rfl
                try simp only [Act.put, List.setIfInBounds_toArray, List.set_cons_zero, List.set_cons_succ]
                refine wpAnyH_take (i := 4) (oi := ?oi_4) (v := ?v_4) ?hi_4 ?hs_4 ?hf_4 ?hr_4 ?hQ_4 ?hy_4 ?hS_4 ?rest_4
                case hi_4 => simp only [List.getElem?_toArray, List.getElem?_cons_succ, List.getElem?_cons_zero] <;> rfl
                case hs_4 => kernel_rfl
                case hf_4 => kernel_rfl
                case hr_4 => kernel_rfl
                case hQ_4 => exact fun _ _ _ h => h
                case hS_4 => assumption
                case hy_4 =>
                  refine Or.inl ⟨by rfl, ?_⟩
                  intro w hSw
                  (try dsimp only at hSw)
                  go_simp
                  try with_reducible rfl
                try simp only [Act.put, List.setIfInBounds_toArray, List.set_cons_zero, List.set_cons_succ]
                refine wpAnyH_take (i := 5) (oi := ?oi_5) (v := ?v_5) ?hi_5 ?hs_5 ?hf_5 ?hr_5 ?hQ_5 ?hy_5 ?hS_5 ?rest_5
                case hi_5 => simp only [List.getElem?_toArray, List.getElem?_cons_succ, List.getElem?_cons_zero] <;> rfl
                case hs_5 => kernel_rfl
                case hf_5 => kernel_rfl
                case hr_5 => kernel_rfl
                case hQ_5 => exact fun _ _ _ h => h
                case hS_5 => assumption
                case hy_5 =>
                  refine Or.inl ⟨by rfl, ?_⟩
                  intro w hSw
                  (try dsimp only at hSw)
                  go_simp
                  try with_reducible rfl
                try simp only [Act.put, List.setIfInBounds_toArray, List.set_cons_zero, List.set_cons_succ]
                refine wpAnyH_take (i := 6) (oi := ?oi_6) (v := ?v_6) ?hi_6 ?hs_6 ?hf_6 ?hr_6 ?hQ_6 ?hy_6 ?hS_6 ?rest_6
                case hi_6 => simp only [List.getElem?_toArray, List.getElem?_cons_succ, List.getElem?_cons_zero] <;> rfl
                case hs_6 => kernel_rfl
                case hf_6 => kernel_rfl
                case hr_6 => kernel_rfl
                case hQ_6 => exact fun _ _ _ h => h
                case hS_6 => assumption
                case hy_6 =>
                  refine Or.inl ⟨by rfl, ?_⟩
                  intro w hSw
                  (try dsimp only at hSw)
                  go_simp
                  try with_reducible rfl
                try simp only [Act.put, List.setIfInBounds_toArray, List.set_cons_zero, List.set_cons_succ]
                refine wpAnyH_take (i := 7) (oi := ?oi_7) (v := ?v_7) ?hi_7 ?hs_7 ?hf_7 ?hr_7 ?hQ_7 ?hy_7 ?hS_7 ?rest_7
                case hi_7 => simp only [List.getElem?_toArray, List.getElem?_cons_succ, List.getElem?_cons_zero] <;> rfl
                case hs_7 => kernel_rfl
                case hf_7 => kernel_rfl
                case hr_7 => kernel_rfl
                case hQ_7 => exact fun _ _ _ h => h
                case hS_7 => assumption
                case hy_7 =>
                  refine Or.inl ⟨by rfl, ?_⟩
                  intro w hSw
                  (try dsimp only at hSw)
                  go_simp
                  try with_reducible rfl
                try simp only [Act.put, List.setIfInBounds_toArray, List.set_cons_zero, List.set_cons_succ]
                refine wpAnyH_take (i := 8) (oi := ?oi_8) (v := ?v_8) ?hi_8 ?hs_8 ?hf_8 ?hr_8 ?hQ_8 ?hy_8 ?hS_8 ?rest_8
                case hi_8 => simp only [List.getElem?_toArray, List.getElem?_cons_succ, List.getElem?_cons_zero] <;> rfl
                case hs_8 => kernel_rfl
                case hf_8 => kernel_rfl
                case hr_8 => kernel_rfl
                case hQ_8 => exact fun _ _ _ h => h
                case hS_8 => assumption
                case hy_8 =>
                  refine Or.inl ⟨by rfl, ?_⟩
                  intro w hSw
                  (try dsimp only at hSw)
                  go_simp
                  try with_reducible rfl
                try simp only [Act.put, List.setIfInBounds_toArray, List.set_cons_zero, List.set_cons_succ]
                refine wpAnyH_take (i := 9) (oi := ?oi_9) (v := ?v_9) ?hi_9 ?hs_9 ?hf_9 ?hr_9 ?hQ_9 ?hy_9 ?hS_9 ?rest_9
                case hi_9 => simp only [List.getElem?_toArray, List.getElem?_cons_succ, List.getElem?_cons_zero] <;> rfl
                case hs_9 => kernel_rfl
                case hf_9 => kernel_rfl
                case hr_9 => kernel_rfl
                case hQ_9 => exact fun _ _ _ h => h
                case hS_9 => assumption
                case hy_9 =>
                  refine Or.inl ⟨by rfl, ?_⟩
                  intro w hSw
                  (try dsimp only at hSw)
                  go_simp
                  try with_reducible rfl
                try simp only [Act.put, List.setIfInBounds_toArray, List.set_cons_zero, List.set_cons_succ]
                refine wpAnyH_take (i := 10) (oi := ?oi_10) (v := ?v_10) ?hi_10 ?hs_10 ?hf_10 ?hr_10 ?hQ_10 ?hy_10 ?hS_10 ?rest_10
                case hi_10 => simp only [List.getElem?_toArray, List.getElem?_cons_succ, List.getElem?_cons_zero] <;> rfl
                case hs_10 => kernel_rfl
                case hf_10 => kernel_rfl
                case hr_10 => kernel_rfl
                case hQ_10 => exact fun _ _ _ h => h
                case hS_10 => assumption
                case hy_10 =>
                  refine Or.inl ⟨by rfl, ?_⟩
                  intro w hSw
                  (try dsimp only at hSw)
                  go_simp
                  try with_reducible rfl
                try simp only [Act.put, List.setIfInBounds_toArray, List.set_cons_zero, List.set_cons_succ]
                refine wpAnyH_ready (rs := [11]) (by kernel_rfl) (by simp) ?_
                refine AllReadyH.cons rfl (fun KK hKK => ?_) AllReadyH.nil
                go_simp
                go_wp2_with (go_at_call 14; refine Calls.mono (HSTO.out _ HMD'.out) ?_; rintro e v1 ⟨rfl, hm⟩; have HM1 : Hid (Mid w v1 V S N L (M'.store K Z) (some ⟨b, o, none⟩) cs wa q fw) := hm; clear hm)
                refine hKK.out _ _ ?_ (fun hHeld => ?_)
                · exact HX1.out _ _ HM1.out
                clear hKK KK
                refine wpAnyH_take (i := 12) (oi := ?oi_12) (v := ?v_12) ?hi_12 ?hs_12 ?hf_12 ?hr_12 ?hQ_12 ?hy_12 ?hS_12 ?rest_12
                case hi_12 => simp only [List.getElem?_toArray, List.getElem?_cons_succ, List.getElem?_cons_zero] <;> rfl
                case hs_12 => kernel_rfl
                case hf_12 => kernel_rfl
                case hr_12 => kernel_rfl
                case hQ_12 => exact fun _ _ _ h => h
                case hS_12 => assumption
                case hy_12 =>
                  refine Or.inl ⟨by rfl, ?_⟩
                  intro w hSw
                  (try dsimp only at hSw)
                  go_simp
                  try with_reducible rfl
                try simp only [Act.put, List.setIfInBounds_toArray, List.set_cons_zero, List.set_cons_succ]
                refine wpAnyH_take (i := 13) (oi := ?oi_13) (v := ?v_13) ?hi_13 ?hs_13 ?hf_13 ?hr_13 ?hQ_13 ?hy_13 ?hS_13 ?rest_13
                case hi_13 => simp only [List.getElem?_toArray, List.getElem?_cons_succ, List.getElem?_cons_zero] <;> rfl
                case hs_13 => kernel_rfl
                case hf_13 => kernel_rfl
                case hr_13 => kernel_rfl
                case hQ_13 => exact fun _ _ _ h => h
                case hS_13 => assumption
                case hy_13 =>
                  refine Or.inl ⟨by rfl, ?_⟩
                  intro w hSw
                  (try dsimp only at hSw)
                  go_simp
                  try with_reducible rfl
                try simp only [Act.put, List.setIfInBounds_toArray, List.set_cons_zero, List.set_cons_succ]
                refine wpAnyH_take (i := 14) (oi := ?oi_14) (v := ?v_14) ?hi_14 ?hs_14 ?hf_14 ?hr_14 ?hQ_14 ?hy_14 ?hS_14 ?rest_14
                case hi_14 => simp only [List.getElem?_toArray, List.getElem?_cons_succ, List.getElem?_cons_zero] <;> rfl
                case hs_14 => kernel_rfl
                case hf_14 => kernel_rfl
                case hr_14 => kernel_rfl
                case hQ_14 => exact fun _ _ _ h => h
                case hS_14 => assumption
                case hy_14 =>
                  refine Or.inl ⟨by rfl, ?_⟩
                  intro w hSw
                  (try dsimp only at hSw)
                  go_simp
                  try with_reducible rfl
                try simp only [Act.put, List.setIfInBounds_toArray, List.set_cons_zero, List.set_cons_succ]
                refine wpAnyH_take (i := 15) (oi := ?oi_15) (v := ?v_15) ?hi_15 ?hs_15 ?hf_15 ?hr_15 ?hQ_15 ?hy_15 ?hS_15 ?rest_15
                case hi_15 => simp only [List.getElem?_toArray, List.getElem?_cons_succ, List.getElem?_cons_zero] <;> rfl
                case hs_15 => kernel_rfl
                case hf_15 => kernel_rfl
                case hr_15 => kernel_rfl
                case hQ_15 => exact fun _ _ _ h => h
                case hS_15 => assumption
                case hy_15 =>
                  refine Or.inl ⟨by rfl, ?_⟩
                  intro w hSw
                  (try dsimp only at hSw)
                  go_simp
                  try with_reducible rfl
                try simp only [Act.put, List.setIfInBounds_toArray, List.set_cons_zero, List.set_cons_succ]
                refine wpAnyH_take (i := 16) (oi := ?oi_16) (v := ?v_16) ?hi_16 ?hs_16 ?hf_16 ?hr_16 ?hQ_16 ?hy_16 ?hS_16 ?rest_16
                case hi_16 => simp only [List.getElem?_toArray, List.getElem?_cons_succ, List.getElem?_cons_zero] <;> rfl
                case hs_16 => kernel_rfl
                case hf_16 => kernel_rfl
                case hr_16 => kernel_rfl
                case hQ_16 => exact fun _ _ _ h => h
                case hS_16 => assumption
                case hy_16 =>
                  refine Or.inl ⟨by rfl, ?_⟩
                  intro w hSw
                  (try dsimp only at hSw)
                  go_simp
                  try with_reducible rfl
                try simp only [Act.put, List.setIfInBounds_toArray, List.set_cons_zero, List.set_cons_succ]
                refine wpAnyH_take (i := 17) (oi := ?oi_17) (v := ?v_17) ?hi_17 ?hs_17 ?hf_17 ?hr_17 ?hQ_17 ?hy_17 ?hS_17 ?rest_17
                case hi_17 => simp only [List.getElem?_toArray, List.getElem?_cons_succ, List.getElem?_cons_zero] <;> rfl
                case hs_17 => kernel_rfl
                case hf_17 => kernel_rfl
                case hr_17 => kernel_rfl
                case hQ_17 => exact fun _ _ _ h => h
                case hS_17 => assumption
                case hy_17 =>
                  refine Or.inl ⟨by rfl, ?_⟩
                  intro w hSw
                  (try dsimp only at hSw)
                  go_simp
                  try with_reducible rfl
                try simp only [Act.put, List.setIfInBounds_toArray, List.set_cons_zero, List.set_cons_succ]
                refine wpAnyH_take (i := 18) (oi := ?oi_18) (v := ?v_18) ?hi_18 ?hs_18 ?hf_18 ?hr_18 ?hQ_18 ?hy_18 ?hS_18 ?rest_18
                case hi_18 => simp only [List.getElem?_toArray, List.getElem?_cons_succ, List.getElem?_cons_zero] <;> rfl
                case hs_18 => kernel_rfl
                case hf_18 => kernel_rfl
                case hr_18 => kernel_rfl
                case hQ_18 => exact fun _ _ _ h => h
                case hS_18 => assumption
                case hy_18 =>
                  refine Or.inl ⟨by rfl, ?_⟩
                  intro w hSw
                  (try dsimp only at hSw)
                  go_simp
                  try with_reducible rfl
                try simp only [Act.put, List.setIfInBounds_toArray, List.set_cons_zero, List.set_cons_succ]
                refine wpAnyH_ready (rs := [19]) (by kernel_rfl) (by simp) ?_
                refine AllReadyH.cons rfl (fun KK hKK => ?_) AllReadyH.nil
                go_simp
                go_wp2_with (go_at_call 15; refine Calls.mono (HOPN.out _) ?_; rintro e w' ⟨rfl, hw⟩; obtain rfl := hw.symm)
                refine hKK.out _ _ ?_ (fun hHeld => ?_)
                · exact HX1.out _ _ HM1.out
                clear hKK KK
                refine wpAnyH_take (i := 20) (oi := ?oi_20) (v := ?v_20) ?hi_20 ?hs_20 ?hf_20 ?hr_20 ?hQ_20 ?hy_20 ?hS_20 ?rest_20
                case hi_20 => simp only [List.getElem?_toArray, List.getElem?_cons_succ, List.getElem?_cons_zero] <;> rfl
                case hs_20 => kernel_rfl
                case hf_20 => kernel_rfl
                case hr_20 => kernel_rfl
                case hQ_20 => exact fun _ _ _ h => h
                case hS_20 => assumption
                case hy_20 =>
                  refine Or.inl ⟨by rfl, ?_⟩
                  intro w hSw
                  (try dsimp only at hSw)
                  go_simp
                  try with_reducible rfl
                try simp only [Act.put, List.setIfInBounds_toArray, List.set_cons_zero, List.set_cons_succ]
                refine wpAnyH_take (i := 21) (oi := ?oi_21) (v := ?v_21) ?hi_21 ?hs_21 ?hf_21 ?hr_21 ?hQ_21 ?hy_21 ?hS_21 ?rest_21
                case hi_21 => simp only [List.getElem?_toArray, List.getElem?_cons_succ, List.getElem?_cons_zero] <;> rfl
                case hs_21 => kernel_rfl
                case hf_21 => kernel_rfl
                case hr_21 => kernel_rfl
                case hQ_21 => exact fun _ _ _ h => h
                case hS_21 => assumption
                case hy_21 =>
                  refine Or.inl ⟨by rfl, ?_⟩
                  intro w hSw
                  (try dsimp only at hSw)
                  go_simp
                  try with_reducible rfl
                try simp only [Act.put, List.setIfInBounds_toArray, List.set_cons_zero, List.set_cons_succ]
                refine wpAnyH_take (i := 22) (oi := ?oi_22) (v := ?v_22) ?hi_22 ?hs_22 ?hf_22 ?hr_22 ?hQ_22 ?hy_22 ?hS_22 ?rest_22
                case hi_22 => simp only [List.getElem?_toArray, List.getElem?_cons_succ, List.getElem?_cons_zero] <;> rfl
                case hs_22 => kernel_rfl
                case hf_22 => kernel_rfl
                case hr_22 => kernel_rfl
                case hQ_22 => exact fun _ _ _ h => h
                case hS_22 => assumption
                case hy_22 =>
                  refine Or.inl ⟨by rfl, ?_⟩
                  intro w hSw
                  (try dsimp only at hSw)
                  go_simp
                  try with_reducible rfl
                try simp only [Act.put, List.setIfInBounds_toArray, List.set_cons_zero, List.set_cons_succ]
                refine wpAnyH_take (i := 23) (oi := ?oi_23) (v := ?v_23) ?hi_23 ?hs_23 ?hf_23 ?hr_23 ?hQ_23 ?hy_23 ?hS_23 ?rest_23
                case hi_23 => simp only [List.getElem?_toArray, List.getElem?_cons_succ, List.getElem?_cons_zero] <;> rfl
                case hs_23 => kernel_rfl
                case hf_23 => kernel_rfl
                case hr_23 => kernel_rfl
                case hQ_23 => exact fun _ _ _ h => h
                case hS_23 => assumption
                case hy_23 =>
                  refine Or.inl ⟨by rfl, ?_⟩
                  intro w hSw
                  (try dsimp only at hSw)
                  go_simp
                  try with_reducible rfl
                try simp only [Act.put, List.setIfInBounds_toArray, List.set_cons_zero, List.set_cons_succ]
                refine wpAnyH_take (i := 24) (oi := ?oi_24) (v := ?v_24) ?hi_24 ?hs_24 ?hf_24 ?hr_24 ?hQ_24 ?hy_24 ?hS_24 ?rest_24
                case hi_24 => simp only [List.getElem?_toArray, List.getElem?_cons_succ, List.getElem?_cons_zero] <;> rfl
                case hs_24 => kernel_rfl
                case hf_24 => kernel_rfl
                case hr_24 => kernel_rfl
                case hQ_24 => exact fun _ _ _ h => h
                case hS_24 => assumption
                case hy_24 =>
                  refine Or.inl ⟨by rfl, ?_⟩
                  intro w hSw
                  (try dsimp only at hSw)
                  go_simp
                  try with_reducible rfl
                try simp only [Act.put, List.setIfInBounds_toArray, List.set_cons_zero, List.set_cons_succ]
                refine wpAnyH_take (i := 25) (oi := ?oi_25) (v := ?v_25) ?hi_25 ?hs_25 ?hf_25 ?hr_25 ?hQ_25 ?hy_25 ?hS_25 ?rest_25
                case hi_25 => simp only [List.getElem?_toArray, List.getElem?_cons_succ, List.getElem?_cons_zero] <;> rfl
                case hs_25 => kernel_rfl
                case hf_25 => kernel_rfl
                case hr_25 => kernel_rfl
                case hQ_25 => exact fun _ _ _ h => h
                case hS_25 => assumption
                case hy_25 =>
                  refine Or.inl ⟨by rfl, ?_⟩
                  intro w hSw
                  (try dsimp only at hSw)
                  go_simp
                  try with_reducible rfl
                try simp only [Act.put, List.setIfInBounds_toArray, List.set_cons_zero, List.set_cons_succ]
                refine wpAnyH_take (i := 26) (oi := ?oi_26) (v := undef) ?hi_26 ?hs_26 ?hf_26 ?hr_26 ?hQ_26 ?hy_26 ?hS_26 ?rest_26
                case hi_26 => simp only [List.getElem?_toArray, List.getElem?_cons_succ, List.getElem?_cons_zero] <;> rfl
                case hs_26 => kernel_rfl
                case hf_26 => kernel_rfl
                case hr_26 => kernel_rfl
                case hQ_26 => exact fun _ _ _ h => h
                case hS_26 => assumption
                case hy_26 => exact Or.inr ⟨by rfl, rfl⟩
                try simp only [Act.put, List.setIfInBounds_toArray, List.set_cons_zero, List.set_cons_succ]
                refine wpAnyH_take (i := 27) (oi := ?oi_27) (v := undef) ?hi_27 ?hs_27 ?hf_27 ?hr_27 ?hQ_27 ?hy_27 ?hS_27 ?rest_27
                case hi_27 => simp only [List.getElem?_toArray, List.getElem?_cons_succ, List.getElem?_cons_zero] <;> rfl
                case hs_27 => kernel_rfl
                case hf_27 => kernel_rfl
                case hr_27 => kernel_rfl
                case hQ_27 => exact fun _ _ _ h => h
                case hS_27 => assumption
                case hy_27 => exact Or.inr ⟨by rfl, rfl⟩
                try simp only [Act.put, List.setIfInBounds_toArray, List.set_cons_zero, List.set_cons_succ]
                refine wpAnyH_take (i := 28) (oi := ?oi_28) (v := undef) ?hi_28 ?hs_28 ?hf_28 ?hr_28 ?hQ_28 ?hy_28 ?hS_28 ?rest_28
                case hi_28 => simp only [List.getElem?_toArray, List.getElem?_cons_succ, List.getElem?_cons_zero] <;> rfl
                case hs_28 => kernel_rfl
                case hf_28 => kernel_rfl
                case hr_28 => kernel_rfl
                case hQ_28 => exact fun _ _ _ h => h
                case hS_28 => assumption
                case hy_28 => exact Or.inr ⟨by rfl, rfl⟩
                try simp only [Act.put, List.setIfInBounds_toArray, List.set_cons_zero, List.set_cons_succ]
                refine wpAnyH_take (i := 29) (oi := ?oi_29) (v := undef) ?hi_29 ?hs_29 ?hf_29 ?hr_29 ?hQ_29 ?hy_29 ?hS_29 ?rest_29
                case hi_29 => simp only [List.getElem?_toArray, List.getElem?_cons_succ, List.getElem?_cons_zero] <;> rfl
                case hs_29 => kernel_rfl
                case hf_29 => kernel_rfl
                case hr_29 => kernel_rfl
                case hQ_29 => exact fun _ _ _ h => h
                case hS_29 => assumption
                case hy_29 => exact Or.inr ⟨by rfl, rfl⟩
                try simp only [Act.put, List.setIfInBounds_toArray, List.set_cons_zero, List.set_cons_succ]
                refine wpAnyH_take (i := 30) (oi := ?oi_30) (v := undef) ?hi_30 ?hs_30 ?hf_30 ?hr_30 ?hQ_30 ?hy_30 ?hS_30 ?rest_30
                case hi_30 => simp only [List.getElem?_toArray, List.getElem?_cons_succ, List.getElem?_cons_zero] <;> rfl
                case hs_30 => kernel_rfl
                case hf_30 => kernel_rfl
                case hr_30 => kernel_rfl
                case hQ_30 => exact fun _ _ _ h => h
                case hS_30 => assumption
                case hy_30 => exact Or.inr ⟨by rfl, rfl⟩
                try simp only [Act.put, List.setIfInBounds_toArray, List.set_cons_zero, List.set_cons_succ]
                refine wpAnyH_take (i := 31) (oi := ?oi_31) (v := undef) ?hi_31 ?hs_31 ?hf_31 ?hr_31 ?hQ_31 ?hy_31 ?hS_31 ?rest_31
                case hi_31 => simp only [List.getElem?_toArray, List.getElem?_cons_succ, List.getElem?_cons_zero] <;> rfl
                case hs_31 => kernel_rfl
                case hf_31 => kernel_rfl
                case hr_31 => kernel_rfl
                case hQ_31 => exact fun _ _ _ h => h
                case hS_31 => assumption
                case hy_31 => exact Or.inr ⟨by rfl, rfl⟩
                try simp only [Act.put, List.setIfInBounds_toArray, List.set_cons_zero, List.set_cons_succ]
                refine wpAnyH_take (i := 32) (oi := ?oi_32) (v := undef) ?hi_32 ?hs_32 ?hf_32 ?hr_32 ?hQ_32 ?hy_32 ?hS_32 ?rest_32
                case hi_32 => simp only [List.getElem?_toArray, List.getElem?_cons_succ, List.getElem?_cons_zero] <;> rfl
                case hs_32 => kernel_rfl
                case hf_32 => kernel_rfl
                case hr_32 => kernel_rfl
                case hQ_32 => exact fun _ _ _ h => h
                case hS_32 => assumption
                case hy_32 => exact Or.inr ⟨by rfl, rfl⟩
                try simp only [Act.put, List.setIfInBounds_toArray, List.set_cons_zero, List.set_cons_succ]
                refine wpAnyH_take (i := 33) (oi := ?oi_33) (v := undef) ?hi_33 ?hs_33 ?hf_33 ?hr_33 ?hQ_33 ?hy_33 ?hS_33 ?rest_33
                case hi_33 => simp only [List.getElem?_toArray, List.getElem?_cons_succ, List.getElem?_cons_zero] <;> rfl
                case hs_33 => kernel_rfl
                case hf_33 => kernel_rfl
                case hr_33 => kernel_rfl
                case hQ_33 => exact fun _ _ _ h => h
                case hS_33 => assumption
                case hy_33 => exact Or.inr ⟨by rfl, rfl⟩
                try simp only [Act.put, List.setIfInBounds_toArray, List.set_cons_zero, List.set_cons_succ]
                refine wpAnyH_take (i := 34) (oi := ?oi_34) (v := undef) ?hi_34 ?hs_34 ?hf_34 ?hr_34 ?hQ_34 ?hy_34 ?hS_34 ?rest_34
                case hi_34 => simp only [List.getElem?_toArray, List.getElem?_cons_succ, List.getElem?_cons_zero] <;> rfl
                case hs_34 => kernel_rfl
                case hf_34 => kernel_rfl
                case hr_34 => kernel_rfl
                case hQ_34 => exact fun _ _ _ h => h
                case hS_34 => assumption
                case hy_34 => exact Or.inr ⟨by rfl, rfl⟩
                try simp only [Act.put, List.setIfInBounds_toArray, List.set_cons_zero, List.set_cons_succ]
                refine wpAnyH_take (i := 35) (oi := ?oi_35) (v := undef) ?hi_35 ?hs_35 ?hf_35 ?hr_35 ?hQ_35 ?hy_35 ?hS_35 ?rest_35
                case hi_35 => simp only [List.getElem?_toArray, List.getElem?_cons_succ, List.getElem?_cons_zero] <;> rfl
                case hs_35 => kernel_rfl
                case hf_35 => kernel_rfl
                case hr_35 => kernel_rfl
                case hQ_35 => exact fun _ _ _ h => h
                case hS_35 => assumption
                case hy_35 => exact Or.inr ⟨by rfl, rfl⟩
                try simp only [Act.put, List.setIfInBounds_toArray, List.set_cons_zero, List.set_cons_succ]
                refine wpAnyH_take (i := 36) (oi := ?oi_36) (v := undef) ?hi_36 ?hs_36 ?hf_36 ?hr_36 ?hQ_36 ?hy_36 ?hS_36 ?rest_36
                case hi_36 => simp only [List.getElem?_toArray, List.getElem?_cons_succ, List.getElem?_cons_zero] <;> rfl
                case hs_36 => kernel_rfl
                case hf_36 => kernel_rfl
                case hr_36 => kernel_rfl
                case hQ_36 => exact fun _ _ _ h => h
                case hS_36 => assumption
                case hy_36 => exact Or.inr ⟨by rfl, rfl⟩
                try simp only [Act.put, List.setIfInBounds_toArray, List.set_cons_zero, List.set_cons_succ]
                refine wpAnyH_take (i := 37) (oi := ?oi_37) (v := undef) ?hi_37 ?hs_37 ?hf_37 ?hr_37 ?hQ_37 ?hy_37 ?hS_37 ?rest_37
                case hi_37 => simp only [List.getElem?_toArray, List.getElem?_cons_succ, List.getElem?_cons_zero] <;> rfl
                case hs_37 => kernel_rfl
                case hf_37 => kernel_rfl
                case hr_37 => kernel_rfl
                case hQ_37 => exact fun _ _ _ h => h
                case hS_37 => assumption
                case hy_37 => exact Or.inr ⟨by rfl, rfl⟩
                try simp only [Act.put, List.setIfInBounds_toArray, List.set_cons_zero, List.set_cons_succ]
                refine wpAnyH_take (i := 38) (oi := ?oi_38) (v := ?v_38) ?hi_38 ?hs_38 ?hf_38 ?hr_38 ?hQ_38 ?hy_38 ?hS_38 ?rest_38
                case hi_38 => simp only [List.getElem?_toArray, List.getElem?_cons_succ, List.getElem?_cons_zero] <;> rfl
                case hs_38 => kernel_rfl
                case hf_38 => kernel_rfl
                case hr_38 => kernel_rfl
                case hQ_38 => exact fun _ _ _ h => h
                case hS_38 => assumption
                case hy_38 =>
                  refine Or.inl ⟨by rfl, ?_⟩
                  intro w hSw
                  (try dsimp only at hSw)
                  go_simp
                  try with_reducible rfl
                try simp only [Act.put, List.setIfInBounds_toArray, List.set_cons_zero, List.set_cons_succ]
                refine wpAnyH_take (i := 39) (oi := ?oi_39) (v := ?v_39) ?hi_39 ?hs_39 ?hf_39 ?hr_39 ?hQ_39 ?hy_39 ?hS_39 ?rest_39
                case hi_39 => simp only [List.getElem?_toArray, List.getElem?_cons_succ, List.getElem?_cons_zero] <;> rfl
                case hs_39 => kernel_rfl
                case hf_39 => kernel_rfl
                case hr_39 => kernel_rfl
                case hQ_39 => exact fun _ _ _ h => h
                case hS_39 => assumption
                case hy_39 =>
                  refine Or.inl ⟨by rfl, ?_⟩
                  intro w hSw
                  (try dsimp only at hSw)
                  go_simp
                  try with_reducible rfl
                try simp only [Act.put, List.setIfInBounds_toArray, List.set_cons_zero, List.set_cons_succ]
                refine wpAnyH_done (by kernel_rfl) ?_ _

                clear x1 x2
                go_wp2
                go_roundw
                case rel => exact ⟨0 + 1, M'.store K Z, by omega, by go_num, HM1.out, HPUT.out⟩
                case measure => simp [intOf]; omega
              · have hj1 : ((j : Int) > 0) := by omega
                have hj2 : (0 : Int) < (j : Int) := by omega
                obtain ⟨p, hp⟩ : ∃ p : Nat, j = p + 1 := ⟨j - 1, by omega⟩
                have hpm : (j : Int) - 1 = (p : Int) := by omega
                have hpw : IntKind.i64.wrap ((j : Int) - 1) = (p : Int) := by rw [IntKind.wrap_i64]; omega
                have hpn : (p : Int) < (nc : Int) := by omega
                have hpl : p < cs.length := by omega
                obtain ⟨y1, _⟩ := hcc p hpl
                obtain ⟨K2, hK2⟩ : ∃ K, (cs.getD p (0, 0)).1 = K := ⟨_, rfl⟩
                have hKK : K2 < K := by rw [← hK2]; exact HRISE.out p (by omega)
                have hKd : decide (K ≤ K2) = false := by simp; omega
                have hKn : ¬ (K ≤ K2) := by omega
                rw [hK2] at y1
                have HY1 : Hid (∀ w' M2, Mid w w' V S N L M2 (some ⟨b, o, none⟩) cs wa q fw → w'.cell? ⟨b, o + p * 2, none⟩ = some (.int .i64 K2)) := fun w' M2 h => by
                  obtain ⟨_, _, e, _, h2⟩ := h.chg.resolve_left (fun e => by rw [e] at hjl; simp at hjl)
                  cases e
                  have := (h2 p hpl).1
                  rw [hK2] at this
                  exact this
                have HMD' : Hid (Mid w wr.drew V S N L M' (some ⟨b, o, none⟩) cs wa q fw) := HMD.out.later (Below.refl _ _).drew
                have x1' := (HX1.out _ _ HMD'.out).1
                have x2' := (HX1.out _ _ HMD'.out).2
                have y1' := HY1.out _ _ HMD'.out
                clear x1 x2 y1
                have x1 := x1'
                have x2 := x2'
                have y1 := y1'
                clear x1' x2' y1' hput herr hopen hcc hK hZ hK2 hp hpl hjl HR
                have hj3 : 0 < j := by omega
                have hpw2 : IntKind.i64.wrap (p : Int) = (p : Int) := by rw [IntKind.wrap_i64]; omega
                have hp0 : (0 : Int) ≤ (p : Int) := by omega
                have hpn2 : p < nc := by omega
                go_wp2_with fail
                go_region_held3 (fun v' => v'.cell? ⟨b, o + j * 2, none⟩ = some (.int .i64 K) ∧ v'.cell? ⟨b, o + j * 2 + 1, none⟩ = some (.int .u64 Z) ∧ v'.cell? ⟨b, o + p * 2, none⟩ = some (.int .i64 K2)) (first | go_keep | exact ⟨x1, x2, y1⟩)
                  (first
                    | (go_at_call 14; refine Calls.mono (HSTO.out _ HMD'.out) ?_; rintro e v1 ⟨rfl, hm⟩
                       have HM1 : Hid (Mid w v1 V S N L (M'.store K Z) (some ⟨b, o, none⟩) cs wa q fw) := hm
                       clear x1 x2 y1
                       obtain ⟨x1, x2⟩ := HX1.out _ _ hm
                       have y1 := HY1.out _ _ hm
                       clear hm)
                    | (go_at_call 15; refine Calls.mono (HOPN.out _) ?_; rintro e w' ⟨rfl, hw⟩; obtain rfl := hw.symm))
                all_goals
                  clear x1 x2 y1
                  go_wp2
                  go_roundw
                  case rel => exact ⟨j + 1, M'.store K Z, by omega, by go_num, HM1.out, HPUT.out⟩
                  case measure => simp [intOf]; omega
            · have hge3 : ¬ ((j : Int) < (nc : Int)) := by omega
              have hjE : j = nc := by omega
              have HMD : Hid (Mid w wr V S N L M' ya cs wa q fw) := HR.out.1
              have HPE : Hid (Put M cs cs.length M') := by rw [HNC.out, ← hjE]; exact HR.out.2
              clear HR hlt hj hjE HMID
              have HIM : Hid (Calls Tryz.prog 17 #[.pointer (some ⟨L.mb, 0, none⟩)] wr fun e w' => ∃ ia ic, e = .returned (.slice ia q ic) ∧ UAt w' ia q (fun i => M'.read (i : Int)) ∧ Below wr.heap.size wr w') := by
                refine (image_any L M' wr HMD.out.mem).mono ?_
                rintro e w' ⟨rfl, h1, h2⟩
                have el : M'.sure.length = q := by have := HPE.out.len; have := HQL.out; have := HLN.out; omega
                rw [image_rowI, el] at h1
                obtain ⟨ia, ic, e1, e2, _⟩ := row_words h1
                rw [el, e1]
                exact ⟨ia, ic, rfl, e2, h2⟩
              have hrd : ∀ i : Nat, i < q → M'.read (i : Int) = fw i := fun i _ => by rw [HFW.out i]; exact HPE.out.reads HGD.out i
              have HRDS : Hid (∀ i : Nat, i < q → M'.read (i : Int) = fw i) := hrd
              have HCH2 : Hid (∀ w', Mid w w' V S N L M' ya cs wa q fw → Calls Tryz.prog 13 #[.pointer (some ⟨X.vb, 0, none⟩)] w' fun e w'' => (∃ a c, e = .returned (.slice a 0 c)) ∧ Below w.heap.size w w'') := fun w' h => by
                have := vchanges_any V S N L M' w' h.view h.mem h.mb (by have := HN1000.out; omega)
                rw [HVX.out, HPE.out.none HGD.out h.view] at this
                refine this.mono ?_
                rintro e w'' ⟨v, rfl, h1, h2⟩
                obtain ⟨a, c, rfl, _⟩ := OwnChg.at h1
                exact ⟨⟨a, c, rfl⟩, h.bel.trans (h2.mono h.bel.size)⟩
              clear hrd
              go_wp2_with (first
                | (go_at_call 17; refine Calls.mono (Hid.out HIM) ?_; rintro e u1 ⟨ia, ic, rfl, hia, hb⟩
                   have HU1 : Hid (Mid w u1 V S N L M' ya cs wa q fw) := HMD.out.later hb
                   have HSM : Hid (Calls Tryz.prog 16 #[.slice ia q ic, .slice wa q wc] u1 fun e w' => e = .returned (.bool true) ∧ Below u1.heap.size u1 w') := same_eq ia wa q ic wc _ _ u1 hia HU1.out.want HRDS.out (by omega)
                   clear hia hb HIM)
                | (go_at_call 16; refine Calls.mono (Hid.out HSM) ?_; rintro e u2 ⟨rfl, hb⟩; have HU2 : Hid (Mid w u2 V S N L M' ya cs wa q fw) := HU1.out.later hb; clear hb HSM)
                | (go_at_call 13; refine Calls.mono (HCH2.out _ HU2.out) ?_; rintro e u3 ⟨⟨za, zc, rfl⟩, hb⟩; have HU3 : Hid (Below w.heap.size w u3) := hb; clear hb HCH2)
                | go_in)
              go_ret
              exact ⟨rfl, HU3.out⟩

set_option maxRecDepth 100000 in
theorem lifted (os : Os) (started : os.Started) (H : Type) (enc : TypeId × Value → H) :
    ReturnsInHanded {} Tryz.checked os 3 .any (Rows.viewMakesSpec.pre6 enc Tryz.prog Tryz.f3 Rows.viewMakesRow.domain false) (Rows.viewMakesSpec.post enc Tryz.prog Tryz.f3 false true false false) := by
  refine returnsInHanded_of_change (C := Tryz.checked) own started (by kernel_rfl) Tryz.func3
    (ChangeSpec.witness6 (enc := enc) (C := Tryz.checked) false ⟨#[], #[.slice none 0 0, .slice none 0 0], []⟩ 8 (by kernel_rfl) (by kernel_rfl) (by kernel_rfl) (by kernel_rfl)) ?_
  intro W base args ds gs before hval0 hW hcnd _
  have hval : ∀ (j : Nat) t v, Tryz.f3.params[j]? = some t → args[j]? = some v → Value.okWide Tryz.prog W .any base t v := hval0
  have hW' := hW
  obtain ⟨p, q, hA0, hV, rfl, hfz, hnd⟩ := hW
  have hA : DataW.TrodAll enc Tryz.prog W 0 (fun _ => true) true Tryz.f3.params.toList args.toList ds p := hA0
  rw [Tryz.params3] at hA hval
  obtain ⟨v0, vs0, d0, ds0, p0, q0, hargs, rfl, rfl, h0, r0⟩ := trodAll_cons hA
  obtain ⟨v1, vs1, d1, ds1, p1, q1, rfl, rfl, rfl, h1, r1⟩ := trodAll_cons r0
  obtain ⟨rfl, rfl, rfl⟩ := trodAll_nil r1
  obtain rfl : args = #[v0, v1] := by cases args; simp_all
  obtain ⟨rfl, rfl⟩ := trodVars_none hV
  have k0 := h0
  have lt0 : ∀ x ∈ p0, x.block < W.heap.size := by obtain ⟨m, hm⟩ := k0; exact DataW.trod_lt m _ _ _ hm
  obtain ⟨a0, len0, cap0, rfl⟩ := okWide_slice Tryz.underlying22 (hval 0 22 v0 rfl rfl)
  obtain ⟨cs0, hl0, w0⟩ := open_chgs rfl h0
  subst hl0
  have k1 := h1
  have lt1 : ∀ x ∈ p1, x.block < W.heap.size := by obtain ⟨m, hm⟩ := k1; exact DataW.trod_lt m _ _ _ hm
  obtain ⟨a1, len1, cap1, rfl⟩ := okWide_slice Tryz.underlying23 (hval 1 23 v1 rfl rfl)
  obtain ⟨cs1, hl1, w1⟩ := open_ops rfl h1
  subst hl1
  clear hA0 hval0
  refine (walk a0 cap0 cs0 a1 cap1 cs1 W w0 w1).mono fun e W' ⟨he, bel⟩ => ?_
  subst he
  exact ⟨_, rfl, _, _, _, [], _, [], hW', trodAll_mk1 (shut_bool Tryz.underlying4 _), (trodAll_cons_mk (Below.trod laidOut (by kernel_rfl) (of_decide_eq_true (by kernel_rfl)) k0 bel lt0) (trodAll_cons_mk (Below.trod laidOut (by kernel_rfl) (of_decide_eq_true (by kernel_rfl)) k1 bel lt1) trodAll_mk0)), rfl, bel.frame _, fun h => by cases h⟩

theorem over : Rows.viewMakesRow.holds Tryz.pinned (OpenSpec.ofChange Rows.viewMakesSpec) :=
  OpenClaim.holds_of_wide 3 Tryz.f3 rfl rfl rfl rfl rfl rfl rfl ⟨rfl, rfl, rfl, rfl, rfl⟩ rfl rfl rfl rfl rfl (by kernel_rfl) Tryz.func3 (by kernel_rfl)
    (of_decide_eq_true (by kernel_rfl)) (by unfold Func.isWrapper; first | (rw [if_pos (by decide +kernel)]; kernel_rfl) | (rw [if_neg (by decide +kernel)]; exact ⟨rfl, rfl⟩))
    (fun os started H enc _ => lifted os started H enc)

theorem proved : Rows.ViewMakesSaid := over
#print axioms proved
end Go.Proofs.YtomlbifplliakaaGreat.viewMakes
