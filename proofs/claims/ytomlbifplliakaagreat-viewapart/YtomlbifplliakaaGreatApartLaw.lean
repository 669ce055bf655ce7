/- What is proved: the given statement ViewApartSaid: for every two scripts and every place the law returns true, and its arguments read afterwards as before. There are no further conditions. -/
import Derived.Test.YtomlbifplliakaaGreatRows
import Derived.Test.YtomlbifplliakaaGreatTw2
import Derived.Deep.RegionHeld3
import Derived.BigQuiet
import Derived.Deep.QuietTactic
namespace Go.Proofs.YtomlbifplliakaaGreat.viewApart
open Go.RowKit Go.Maps Go.ChangeMaps Go.ChangeShapes Go.WideShapes Go.ChangeAt Go.Deep Go.Joins
set_option linter.unusedVariables false

set_option maxHeartbeats 4000000 in
set_option maxRecDepth 100000 in
theorem walk (aa : Option Addr) (ac : Nat) (as_ : List Vop) (ba : Option Addr) (bc : Nat) (bs : List Vop) (at_ : Int) (w : World) (ha : OpsIn w aa ac as_) (hb_ : OpsIn w ba bc bs) (hat : -9223372036854775808 ≤ at_ ∧ at_ ≤ 9223372036854775807) :
    Calls Tryz.prog 4 #[.slice aa as_.length ac, .slice ba bs.length bc, .int .i64 at_] w fun e w' => e = .returned (.bool true) ∧ Below w.heap.size w w' := by
  have HAT : Hid ((Lit.int .i64 at_).wf = true) := WalkArith.wf_i64 hat
  have HA : Hid (OpsIn w aa ac (as_.take 60)) := ha.early
  have HB : Hid (OpsIn w ba bc (bs.take 60)) := hb_.early
  have EA : Hid (∀ w', Calls Tryz.prog 10 #[.slice aa as_.length ac] w' fun e w'' => e = .returned (.slice aa (as_.take 60).length ac) ∧ w'' = w') := fun w' => early_any w w' aa ac as_ ha
  have EB : Hid (∀ w', Calls Tryz.prog 10 #[.slice ba bs.length bc] w' fun e w'' => e = .returned (.slice ba (bs.take 60).length bc) ∧ w'' = w') := fun w' => early_any w w' ba bc bs hb_
  obtain ⟨las, hlas⟩ : ∃ n, as_.length = n := ⟨_, rfl⟩
  obtain ⟨lbs, hlbs⟩ : ∃ n, bs.length = n := ⟨_, rfl⟩
  have h60a : (as_.take 60).length ≤ 60 := by rw [List.length_take]; omega
  have h60b : (bs.take 60).length ≤ 60 := by rw [List.length_take]; omega
  obtain ⟨xs, hxs⟩ : ∃ l, as_.take 60 = l := ⟨_, rfl⟩
  obtain ⟨ys, hys⟩ : ∃ l, bs.take 60 = l := ⟨_, rfl⟩
  rw [hlas] at EA ⊢
  rw [hlbs] at EB ⊢
  rw [hxs] at HA EA h60a
  rw [hys] at HB EB h60b
  obtain ⟨na, hna⟩ : ∃ n, xs.length = n := ⟨_, rfl⟩
  obtain ⟨nb, hnb⟩ : ∃ n, ys.length = n := ⟨_, rfl⟩
  have HNA : Hid (xs.length = na) := hna
  have HNB : Hid (ys.length = nb) := hnb
  rw [hna] at EA h60a
  rw [hnb] at EB h60b
  clear ha hb_ hat hlas hlbs hxs hys hna hnb
  go_enter Tryz.func4, Tryz.ntmps4
  go_wp2_with fail
  refine (lives_any _).mono ?_
  rintro e w0 ⟨rfl, hb0⟩
  go_wp2_with fail
  refine (image_nil _).mono ?_
  rintro e w1 ⟨G, rfl, hr, hG, hb1⟩
  go_wp2_with fail
  refine (load_img G headN _ hr (fun i _ => headN_wf i)).mono ?_
  rintro e w2 ⟨L, rfl, hm2, hL, hb2⟩
  have HM2 : Hid (MemIs w2 L M0) := hm2
  have HR2 : Hid (RowIs w2 G headN) := hr.later (Nat.le_refl _) hb2
  have HL : Hid (∀ j ∈ L.blocks, w1.heap.size ≤ j ∧ j < w2.heap.size) := fun j hj => ⟨hL j hj, hm2.all_lt j hj⟩
  have HB1 : Hid (Below w.heap.size w w1) := hb0.trans (hb1.mono hb0.size)
  have HB2 : Hid (Below w.heap.size w w2) := HB1.out.trans (hb2.mono HB1.out.size)
  have HGW : Hid (w.heap.size ≤ G ∧ G < w1.heap.size) := ⟨Nat.le_trans hb0.size hG, hr.lt⟩
  clear hr hG hb0 hb1 hm2 hL hb2
  go_wp2_with fail
  refine (vnew_yes L M0 w2 HM2.out M0_len).mono ?_
  rintro e w3 ⟨rfl, hv3, hb3⟩
  obtain ⟨X, hX⟩ : ∃ A, newLay L.mb w2.heap.size = A := ⟨_, rfl⟩
  have HX : Hid (∀ j ∈ X.all, w2.heap.size ≤ j ∧ j < w3.heap.size) := fun j hj => ⟨by rw [← hX] at hj; simp [newLay, VLay.all, VLay.blocks] at hj; omega, by rw [hX] at hv3; exact hv3.all_lt j hj⟩
  have HXX : Hid (X.vb = w2.heap.size) := by rw [← hX]; rfl
  have HXM : Hid (X.mb = L.mb) := by rw [← hX]; rfl
  have HV3 : Hid (ViewIs w3 X Vw.new 0) := by rw [← hX]; exact hv3
  have HM3 : Hid (MemIs w3 L M0) := HM2.out.later hb3
  have HR3 : Hid (RowIs w3 G headN) := HR2.out.later (Nat.le_refl _) hb3
  have HB3 : Hid (Below w.heap.size w w3) := HB2.out.trans (hb3.mono HB2.out.size)
  rw [← HXX.out]
  clear hv3 hb3 hX
  go_wp2_with fail
  refine (vnew_yes L M0 w3 HM3.out M0_len).mono ?_
  rintro e w4 ⟨rfl, hv4, hb4⟩
  obtain ⟨Y, hY⟩ : ∃ A, newLay L.mb w3.heap.size = A := ⟨_, rfl⟩
  have HY : Hid (∀ j ∈ Y.all, w3.heap.size ≤ j ∧ j < w4.heap.size) := fun j hj => ⟨by rw [← hY] at hj; simp [newLay, VLay.all, VLay.blocks] at hj; omega, by rw [hY] at hv4; exact hv4.all_lt j hj⟩
  have HYY : Hid (Y.vb = w3.heap.size) := by rw [← hY]; rfl
  have HYM : Hid (Y.mb = L.mb) := by rw [← hY]; rfl
  have HT : Hid (Two w w4 X Vw.new 0 Y Vw.new 0 L M0 G) := by
    have q1 := HB1.out.size
    have q2 := HB2.out.size
    have q3 := HB3.out.size
    have q4 := HGW.out
    refine ⟨HB3.out.trans (hb4.mono q3), HV3.out.later hb4, by rw [← hY]; exact hv4, HM3.out.later hb4, HR3.out.later (Nat.le_refl _) hb4, HXM.out, HYM.out, fun j hj hj2 => ?_, fun j hj hj2 => ?_, fun j hj hj2 => ?_, fun hj => ?_, fun hj => ?_, fun hj => ?_, fun j hj => ?_, fun j hj => ?_, fun j hj => ?_⟩
    · have := HL.out j hj; have := HX.out j hj2; omega
    · have := HL.out j hj; have := HY.out j hj2; have := HB3.out.size; have h23 : w2.heap.size ≤ w3.heap.size := by have := HX.out X.vb (by simp [VLay.all, VLay.blocks]); omega
      omega
    · have := HX.out j hj; have := HY.out j hj2; omega
    · have := HX.out G hj; have h12 := HL.out L.mb (by simp [Lay.blocks]); omega
    · have := HY.out G hj; have h12 := HL.out L.mb (by simp [Lay.blocks]); have := HX.out X.vb (by simp [VLay.all, VLay.blocks]); omega
    · have := HL.out G hj; omega
    · have := HX.out j hj; omega
    · have := HY.out j hj; omega
    · have := HL.out j hj; omega
  rw [← HYY.out]
  clear hv4 hb4 hY
  go_wp2_with fail
  refine Calls.mono (EA.out _) ?_
  rintro e w' ⟨rfl, hw⟩
  obtain rfl := hw.symm
  go_wp2_with fail
  refine Calls.mono (EB.out _) ?_
  rintro e w' ⟨rfl, hw⟩
  obtain rfl := hw.symm
  go_wp2
  go_loopw [11] (fun i wr => ∃ (k : Nat) (V : VLay) (S : Vw) (N : Nat), k ≤ na ∧ i = .int .i64 k ∧ Hid (Two w wr V S N Y Vw.new 0 L M0 G ∧ V.vb = X.vb ∧ N = 16 * k)) (fun i _ => na - (intOf i).toNat)
  case atStart => exact ⟨0, X, Vw.new, 0, Nat.zero_le _, rfl, HT.out, rfl, rfl⟩
  case round =>
    obtain ⟨k, V, S, N, hk, rfl, HR⟩ := hrel
    by_cases hlt : k < na
    · obtain ⟨b, off, rfl, hbl, hs⟩ := HA.out.at_.resolve_left (fun e => by have := HNA.out; rw [e] at this; simp at this; omega)
      obtain ⟨hc, hvo⟩ := hs k (by have := HNA.out; omega)
      obtain ⟨o, ho⟩ : ∃ o, xs.getD k noVop = o := ⟨_, rfl⟩
      rw [ho] at hc hvo
      have HVO : Hid (VopIn w o) := hvo
      have hkn : (k : Int) < (na : Int) := by omega
      have T0 := HR.out.1
      have hVX := HR.out.2.1
      have hcell : ∀ j, j < 15 → wr.drew.cell? ⟨b, off + k * 15 + j, none⟩ = o.vals[j]? := fun j hj => (T0.bel.drew.cell (p := ⟨b, off + k * 15 + j, none⟩) hbl).trans (hc j hj)
      obtain ⟨z0, z1, z2, z3, z4, z5, z6, z7, z8, z9, z10, z11, z12, z13, z14⟩ := cells_of hcell
      have HCC : Hid (∀ v1, Below w.heap.size w v1 → ∀ j, j < 15 → v1.cell? ⟨b, off + k * 15 + j, none⟩ = o.vals[j]?) := fun v1 hb j hj => (hb.cell (p := ⟨b, off + k * 15 + j, none⟩) hbl).trans (hc j hj)
      have HTD : Hid (Two w wr.drew V S N Y Vw.new 0 L M0 G) := T0.later (Below.refl _ _).drew
      have HNEW : Hid _ := rnew w wr.drew G headN HTD.out.bel HTD.out.row (fun i _ => headN_wf i)
      have HVX : Hid (V.vb = X.vb) := hVX
      have HNK : Hid (N = 16 * k) := HR.out.2.2
      have HST : Hid (∀ (v1 : World) (R : RLay), Below wr.drew.heap.size wr.drew v1 → RefIs w v1 R → (∀ j ∈ R.blocks, wr.drew.heap.size ≤ j) → Calls Tryz.prog 11 #[.pointer (some ⟨X.vb, 0, none⟩), .pointer (some ⟨R.rb, 0, none⟩), .agg #[.int .i64 o.kind, .int .i64 o.at_, .int .u64 o.v, .int .i64 o.c.k, .int .i64 o.c.l, .int .i64 o.c.s, .int .u64 o.c.v, .int .i64 o.c.d0, .int .i64 o.c.d1, .int .i64 o.c.d2, .int .i64 o.c.d3, .int .i64 o.c.d4, .int .i64 o.c.m, .slice o.la o.ln o.lc, .slice o.na o.nn o.nc]] v1 fun e w' => SomeBool e ∧ StepPost w v1 V N L M0 R w') := fun v1 R hb hr hn => by
        have := step_any w v1 V S N L M0 R o (HTD.out.pair hb hr hn) HVO.out (by have := HNK.out; omega)
        rw [HVX.out] at this
        exact this
      clear hc hs hvo ho hcell T0 hVX
      go_wp2_with fail
      go_region_held3 (fun v' => v'.cell? ⟨b, off + k * 15, none⟩ = some (.int .i64 o.kind) ∧ v'.cell? ⟨b, off + k * 15 + 1, none⟩ = some (.int .i64 o.at_) ∧ v'.cell? ⟨b, off + k * 15 + 2, none⟩ = some (.int .u64 o.v) ∧ v'.cell? ⟨b, off + k * 15 + 3, none⟩ = some (.int .i64 o.c.k) ∧ v'.cell? ⟨b, off + k * 15 + 4, none⟩ = some (.int .i64 o.c.l) ∧ v'.cell? ⟨b, off + k * 15 + 5, none⟩ = some (.int .i64 o.c.s) ∧ v'.cell? ⟨b, off + k * 15 + 6, none⟩ = some (.int .u64 o.c.v) ∧ v'.cell? ⟨b, off + k * 15 + 7, none⟩ = some (.int .i64 o.c.d0) ∧ v'.cell? ⟨b, off + k * 15 + 8, none⟩ = some (.int .i64 o.c.d1) ∧ v'.cell? ⟨b, off + k * 15 + 9, none⟩ = some (.int .i64 o.c.d2) ∧ v'.cell? ⟨b, off + k * 15 + 10, none⟩ = some (.int .i64 o.c.d3) ∧ v'.cell? ⟨b, off + k * 15 + 11, none⟩ = some (.int .i64 o.c.d4) ∧ v'.cell? ⟨b, off + k * 15 + 12, none⟩ = some (.int .i64 o.c.m) ∧ v'.cell? ⟨b, off + k * 15 + 13, none⟩ = some (.slice o.la o.ln o.lc) ∧ v'.cell? ⟨b, off + k * 15 + 14, none⟩ = some (.slice o.na o.nn o.nc)) (first | go_keep | exact ⟨z0, z1, z2, z3, z4, z5, z6, z7, z8, z9, z10, z11, z12, z13, z14⟩)
        (first
          | (go_at_call 9; refine Calls.mono (Hid.out HNEW) ?_; rintro e v1 ⟨R, rfl, hr, hn, hb⟩
             have HRF : Hid (RefIs w v1 R) := hr
             have HRN : Hid (∀ j ∈ R.blocks, wr.drew.heap.size ≤ j) := hn
             have HRB : Hid (Below wr.drew.heap.size wr.drew v1) := hb
             obtain ⟨z0, z1, z2, z3, z4, z5, z6, z7, z8, z9, z10, z11, z12, z13, z14⟩ := cells_of (HCC.out v1 hr.bel)
             clear hr hn hb)
          | (go_at_call 11; refine Calls.mono (HST.out _ _ HRB.out HRF.out HRN.out) ?_; rintro e v2 ⟨⟨x_, rfl⟩, hp⟩
             have HP : Hid (StepPost w v1 V N L M0 R v2) := hp
             obtain ⟨V1_, S1_, T1_, _⟩ := HTD.out.post HRB.out HRN.out hp
             obtain ⟨z0, z1, z2, z3, z4, z5, z6, z7, z8, z9, z10, z11, z12, z13, z14⟩ := cells_of (HCC.out v2 T1_.bel)
             clear hp T1_))
      all_goals
        obtain ⟨V', S', T1, hvb⟩ := HTD.out.post HRB.out HRN.out HP.out
        have HT1 : Hid (Two w v2 V' S' (16 * (k + 1)) Y Vw.new 0 L M0 G ∧ V'.vb = X.vb ∧ 16 * (k + 1) = 16 * (k + 1)) := ⟨by have e := HNK.out; rw [e] at T1; exact T1, hvb.trans HVX.out, rfl⟩
        clear T1 hvb z0 z1 z2 z3 z4 z5 z6 z7 z8 z9 z10 z11 z12 z13 z14
        go_wp2
        go_roundw
        case rel => exact ⟨k + 1, V', S', 16 * (k + 1), by omega, by go_num, HT1.out⟩
        case measure => simp [intOf]; omega
    · have hge : ¬ ((k : Int) < (na : Int)) := by omega
      have HTW : Hid (Two w wr V S N Y Vw.new 0 L M0 G) := HR.out.1
      have HVX : Hid (V.vb = X.vb) := HR.out.2.1
      have hNb : N < 1000 := by have := HR.out.2.2; omega
      have HN1000 : Hid (N < 1000) := hNb
      clear HR HT hlt hNb
      have HR1 : Hid (Calls Tryz.prog 12 #[.pointer (some ⟨Y.vb, 0, none⟩), .int .i64 at_] wr fun e w' => e = .returned (.int .u64 (M0.read at_)) ∧ w' = wr) := by
        have := vread_any Y Vw.new 0 L M0 at_ wr HTW.out.y HTW.out.mem HTW.out.ym HAT.out
        exact this
      have HR2 : Hid (Calls Tryz.prog 18 #[.pointer (some ⟨L.mb, 0, none⟩), .int .i64 at_] wr fun e w' => e = .returned (.int .u64 (M0.read at_)) ∧ w' = wr) := read_any L M0 at_ wr HTW.out.mem HAT.out
      obtain ⟨rd, hrd⟩ : ∃ x, M0.read at_ = x := ⟨_, rfl⟩
      rw [hrd] at HR1 HR2
      have HCH : Hid (Calls Tryz.prog 13 #[.pointer (some ⟨Y.vb, 0, none⟩)] wr fun e w' => (∃ a c, e = .returned (.slice a 0 c)) ∧ Below wr.heap.size wr w') := by
        refine (vchanges_any Y Vw.new 0 L M0 wr HTW.out.y HTW.out.mem HTW.out.ym (by omega)).mono ?_
        rintro e w' ⟨v, rfl, h1, h2⟩
        obtain ⟨a, c, rfl, _⟩ := OwnChg.at h1
        rw [new_changes]
        exact ⟨⟨a, c, rfl⟩, h2⟩
      have HSE : Hid (∀ w1, Below wr.heap.size wr w1 → Calls Tryz.prog 19 #[.pointer (some ⟨Y.vb, 0, none⟩)] w1 fun e w' => e = .returned (.slice none 0 0) ∧ Below wr.heap.size wr w') := fun w1 hb => by
        refine (vseen_any Y Vw.new 0 w1 (HTW.out.y.later hb) (by omega)).mono ?_
        rintro e w' ⟨v, rfl, h1, h2, h3⟩
        have : v = .slice none 0 0 := h2.2 (by unfold Vw.new; simp [placesOf])
        rw [this]
        exact ⟨rfl, hb.trans (h3.mono hb.size)⟩
      obtain ⟨cs, hcs⟩ : ∃ c, S.changes M0 = c := ⟨_, rfl⟩
      have hlen : cs.length ≤ 2824 := by
        rw [← hcs]
        unfold Vw.changes
        exact Nat.le_trans (chgOf_len _ _ _) (placesOf_len _ _)
      obtain ⟨ncs, hncs⟩ : ∃ c, cs.length = c := ⟨_, rfl⟩
      rw [hncs] at hlen
      have HNCS : Hid (cs.length = ncs) := hncs
      have HCX : Hid (∀ (w1 : World) (K : Nat) (Y' : VLay) (T : Vw), Two w w1 V S N Y' T K L M0 G → Calls Tryz.prog 13 #[.pointer (some ⟨X.vb, 0, none⟩)] w1 fun e w' => ∃ a c, e = .returned (.slice a ncs c) ∧ ChgsAt w' a cs ∧ (∀ b, a.map (·.block) = some b → w1.heap.size ≤ b ∧ b < w'.heap.size) ∧ Below w1.heap.size w1 w') := fun w1 K Y' T T1 => by
        have := vchanges_any V S N L M0 w1 T1.v T1.mem T1.vm (by have := HN1000.out; omega)
        rw [HVX.out, hcs] at this
        refine this.mono ?_
        rintro e w' ⟨v, rfl, h1, h2⟩
        obtain ⟨a, c, rfl, _, h3, h4⟩ := OwnChg.at h1
        rw [hncs]
        exact ⟨a, c, rfl, h3, h4, h2⟩
      clear hrd hcs hncs
      go_wp2_with (first
        | (go_at_call 12; refine Calls.mono (Hid.out HR1) ?_; rintro e w' ⟨rfl, hw⟩; obtain rfl := hw.symm)
        | (go_at_call 18; refine Calls.mono (Hid.out HR2) ?_; rintro e w' ⟨rfl, hw⟩; obtain rfl := hw.symm)
        | (go_at_call 13; refine Calls.mono (Hid.out HCH) ?_; rintro e u1 ⟨⟨ca, cc, rfl⟩, hb⟩; have HU1 : Hid (Below wr.heap.size wr u1) := hb; clear hb HCH)
        | (go_at_call 19; refine Calls.mono (HSE.out _ HU1.out) ?_; rintro e u2 ⟨rfl, hb⟩; have HU2 : Hid (Below wr.heap.size wr u2) := hb; clear hb HSE)
        | (go_at_call 13; refine Calls.mono (HCX.out _ _ _ _ (HTW.out.later HU2.out)) ?_; rintro e u3 ⟨va, vc, rfl, hca, hcb, hb⟩
           have HT3 : Hid (Two w u3 Y Vw.new 0 V S N L M0 G) := ((HTW.out.later HU2.out).later hb).swap
           have HCA : Hid (ChgsAt u3 va cs) := hca
           have HCB : Hid (∀ b, va.map (·.block) = some b → b < u3.heap.size ∧ b ∉ Y.all) := fun b e => ⟨(hcb b e).2, fun hm => by have := (hcb b e).1; have := (HTW.out.later HU2.out).y.all_lt b hm; omega⟩
           clear hca hcb hb)
        | go_in)
      go_loopw [13] (fun i wr => ∃ (k : Nat) (Y' : VLay) (T : Vw) (K : Nat), k ≤ nb ∧ i = .int .i64 k ∧ Hid (Two w wr Y' T K V S N L M0 G ∧ Y'.vb = Y.vb ∧ K = 16 * k ∧ ChgsAt wr va cs ∧ ∀ b, va.map (·.block) = some b → b < wr.heap.size ∧ b ∉ Y'.all)) (fun i _ => nb - (intOf i).toNat)
      case atStart => exact ⟨0, Y, Vw.new, 0, Nat.zero_le _, rfl, HT3.out, rfl, rfl, HCA.out, HCB.out⟩
      case round =>
        obtain ⟨k, Y', T, K, hk, rfl, HR⟩ := hrel
        by_cases hlt : k < nb
        · obtain ⟨b, off, rfl, hbl, hs⟩ := HB.out.at_.resolve_left (fun e => by have := HNB.out; rw [e] at this; simp at this; omega)
          obtain ⟨hc, hvo⟩ := hs k (by have := HNB.out; omega)
          obtain ⟨o, ho⟩ : ∃ o, ys.getD k noVop = o := ⟨_, rfl⟩
          rw [ho] at hc hvo
          have HVO : Hid (VopIn w o) := hvo
          have hkn : (k : Int) < (nb : Int) := by omega
          have T0 := HR.out.1
          have hVX := HR.out.2.1
          have hcell : ∀ j, j < 15 → wr.drew.cell? ⟨b, off + k * 15 + j, none⟩ = o.vals[j]? := fun j hj => (T0.bel.drew.cell (p := ⟨b, off + k * 15 + j, none⟩) hbl).trans (hc j hj)
          obtain ⟨z0, z1, z2, z3, z4, z5, z6, z7, z8, z9, z10, z11, z12, z13, z14⟩ := cells_of hcell
          have HCC : Hid (∀ v1, Below w.heap.size w v1 → ∀ j, j < 15 → v1.cell? ⟨b, off + k * 15 + j, none⟩ = o.vals[j]?) := fun v1 hb j hj => (hb.cell (p := ⟨b, off + k * 15 + j, none⟩) hbl).trans (hc j hj)
          have HTD : Hid (Two w wr.drew Y' T K V S N L M0 G) := T0.later (Below.refl _ _).drew
          have HNEW : Hid _ := rnew w wr.drew G headN HTD.out.bel HTD.out.row (fun i _ => headN_wf i)
          have HVX : Hid (Y'.vb = Y.vb) := hVX
          have HNK : Hid (K = 16 * k) := HR.out.2.2.1
          have HST : Hid (∀ (v1 : World) (R : RLay), Below wr.drew.heap.size wr.drew v1 → RefIs w v1 R → (∀ j ∈ R.blocks, wr.drew.heap.size ≤ j) → Calls Tryz.prog 11 #[.pointer (some ⟨Y.vb, 0, none⟩), .pointer (some ⟨R.rb, 0, none⟩), .agg #[.int .i64 o.kind, .int .i64 o.at_, .int .u64 o.v, .int .i64 o.c.k, .int .i64 o.c.l, .int .i64 o.c.s, .int .u64 o.c.v, .int .i64 o.c.d0, .int .i64 o.c.d1, .int .i64 o.c.d2, .int .i64 o.c.d3, .int .i64 o.c.d4, .int .i64 o.c.m, .slice o.la o.ln o.lc, .slice o.na o.nn o.nc]] v1 fun e w' => SomeBool e ∧ StepPost w v1 Y' K L M0 R w') := fun v1 R hb hr hn => by
            have := step_any w v1 Y' T K L M0 R o (HTD.out.pair hb hr hn) HVO.out (by have := HNK.out; omega)
            rw [HVX.out] at this
            exact this
          clear hc hs hvo ho hcell T0 hVX
          go_wp2_with fail
          go_region_held3 (fun v' => v'.cell? ⟨b, off + k * 15, none⟩ = some (.int .i64 o.kind) ∧ v'.cell? ⟨b, off + k * 15 + 1, none⟩ = some (.int .i64 o.at_) ∧ v'.cell? ⟨b, off + k * 15 + 2, none⟩ = some (.int .u64 o.v) ∧ v'.cell? ⟨b, off + k * 15 + 3, none⟩ = some (.int .i64 o.c.k) ∧ v'.cell? ⟨b, off + k * 15 + 4, none⟩ = some (.int .i64 o.c.l) ∧ v'.cell? ⟨b, off + k * 15 + 5, none⟩ = some (.int .i64 o.c.s) ∧ v'.cell? ⟨b, off + k * 15 + 6, none⟩ = some (.int .u64 o.c.v) ∧ v'.cell? ⟨b, off + k * 15 + 7, none⟩ = some (.int .i64 o.c.d0) ∧ v'.cell? ⟨b, off + k * 15 + 8, none⟩ = some (.int .i64 o.c.d1) ∧ v'.cell? ⟨b, off + k * 15 + 9, none⟩ = some (.int .i64 o.c.d2) ∧ v'.cell? ⟨b, off + k * 15 + 10, none⟩ = some (.int .i64 o.c.d3) ∧ v'.cell? ⟨b, off + k * 15 + 11, none⟩ = some (.int .i64 o.c.d4) ∧ v'.cell? ⟨b, off + k * 15 + 12, none⟩ = some (.int .i64 o.c.m) ∧ v'.cell? ⟨b, off + k * 15 + 13, none⟩ = some (.slice o.la o.ln o.lc) ∧ v'.cell? ⟨b, off + k * 15 + 14, none⟩ = some (.slice o.na o.nn o.nc)) (first | go_keep | exact ⟨z0, z1, z2, z3, z4, z5, z6, z7, z8, z9, z10, z11, z12, z13, z14⟩)
            (first
              | (go_at_call 9; refine Calls.mono (Hid.out HNEW) ?_; rintro e v1 ⟨R, rfl, hr, hn, hb⟩
                 have HRF : Hid (RefIs w v1 R) := hr
                 have HRN : Hid (∀ j ∈ R.blocks, wr.drew.heap.size ≤ j) := hn
                 have HRB : Hid (Below wr.drew.heap.size wr.drew v1) := hb
                 obtain ⟨z0, z1, z2, z3, z4, z5, z6, z7, z8, z9, z10, z11, z12, z13, z14⟩ := cells_of (HCC.out v1 hr.bel)
                 clear hr hn hb)
              | (go_at_call 11; refine Calls.mono (HST.out _ _ HRB.out HRF.out HRN.out) ?_; rintro e v2 ⟨⟨x_, rfl⟩, hp⟩
                 have HP : Hid (StepPost w v1 Y' K L M0 R v2) := hp
                 obtain ⟨V1_, S1_, T1_, _⟩ := HTD.out.post HRB.out HRN.out hp
                 obtain ⟨z0, z1, z2, z3, z4, z5, z6, z7, z8, z9, z10, z11, z12, z13, z14⟩ := cells_of (HCC.out v2 T1_.bel)
                 clear hp T1_))
          all_goals
            obtain ⟨V', S', T1, hvb, hca, hcb⟩ := HTD.out.was HRB.out HRN.out HP.out (a := va) (cs := cs) (HR.out.2.2.2.1.later (Nat.le_refl _) (Below.refl _ _).drew) HR.out.2.2.2.2
            have HT1 : Hid (Two w v2 V' S' (16 * (k + 1)) V S N L M0 G ∧ V'.vb = Y.vb ∧ 16 * (k + 1) = 16 * (k + 1) ∧ ChgsAt v2 va cs ∧ ∀ b, va.map (·.block) = some b → b < v2.heap.size ∧ b ∉ V'.all) := ⟨by have e := HNK.out; rw [e] at T1; exact T1, hvb.trans HVX.out, rfl, hca, hcb⟩
            clear T1 hvb hca hcb z0 z1 z2 z3 z4 z5 z6 z7 z8 z9 z10 z11 z12 z13 z14
            go_wp2
            go_roundw
            case rel => exact ⟨k + 1, V', S', 16 * (k + 1), by omega, by go_num, HT1.out⟩
            case measure => simp [intOf]; omega
        · have hge2 : ¬ ((k : Int) < (nb : Int)) := by omega
          have HTZ : Hid (Two w wr V S N Y' T K L M0 G) := HR.out.1.swap
          have HCA2 : Hid (ChgsAt wr va cs) := HR.out.2.2.2.1
          clear HR hlt HT3 HCA HCB
          go_wp2_with (first
            | (go_at_call 13; refine Calls.mono (HCX.out _ _ _ _ HTZ.out) ?_; rintro e u4 ⟨va2, vc2, rfl, hca, _, hb⟩
               have HT4 : Hid (Two w u4 V S N Y' T K L M0 G) := HTZ.out.later hb
               have HSM : Hid (Calls Tryz.prog 20 #[.slice va ncs vc, .slice va2 ncs vc2] u4 fun e w' => e = .returned (.bool true) ∧ Below u4.heap.size u4 w') := (by
                 have := same_chgs va va2 vc vc2 cs u4 (HCA2.out.later (Nat.le_refl _) hb) hca (by have := HNCS.out; omega)
                 rw [HNCS.out] at this
                 exact this)
               clear hca hb)
            | (go_at_call 20; refine Calls.mono (Hid.out HSM) ?_; rintro e u5 ⟨rfl, hb⟩; have HT5 : Hid (Two w u5 V S N Y' T K L M0 G) := HT4.out.later hb; clear hb)
            | go_in)
          go_ret
          exact ⟨rfl, HT5.out.bel⟩
set_option maxRecDepth 100000 in
theorem lifted (os : Os) (started : os.Started) (H : Type) (enc : TypeId × Value → H) :
    ReturnsInHanded {} Tryz.checked os 4 .any (Rows.viewApartSpec.pre6 enc Tryz.prog Tryz.f4 Rows.viewApartRow.domain false) (Rows.viewApartSpec.post enc Tryz.prog Tryz.f4 false true false false) := by
  refine returnsInHanded_of_change (C := Tryz.checked) own started (by kernel_rfl) Tryz.func4
    (ChangeSpec.witness6 (enc := enc) (C := Tryz.checked) false ⟨#[], #[.slice none 0 0, .slice none 0 0, .int .i64 0], []⟩ 8 (by kernel_rfl) (by kernel_rfl) (by kernel_rfl) (by kernel_rfl)) ?_
  intro W base args ds gs before hval0 hW hcnd _
  have hval : ∀ (j : Nat) t v, Tryz.f4.params[j]? = some t → args[j]? = some v → Value.okWide Tryz.prog W .any base t v := hval0
  have hW' := hW
  obtain ⟨p, q, hA0, hV, rfl, hfz, hnd⟩ := hW
  have hA : DataW.TrodAll enc Tryz.prog W 0 (fun _ => true) true Tryz.f4.params.toList args.toList ds p := hA0
  rw [Tryz.params4] at hA hval
  obtain ⟨v0, vs0, d0, ds0, p0, q0, hargs, rfl, rfl, h0, r0⟩ := trodAll_cons hA
  obtain ⟨v1, vs1, d1, ds1, p1, q1, rfl, rfl, rfl, h1, r1⟩ := trodAll_cons r0
  obtain ⟨v2, vs2, d2, ds2, p2, q2, rfl, rfl, rfl, h2, r2⟩ := trodAll_cons r1
  obtain ⟨rfl, rfl, rfl⟩ := trodAll_nil r2
  obtain rfl : args = #[v0, v1, v2] := by cases args; simp_all
  obtain ⟨rfl, rfl⟩ := trodVars_none hV
  have k0 := h0
  have lt0 : ∀ x ∈ p0, x.block < W.heap.size := by obtain ⟨m, hm⟩ := k0; exact DataW.trod_lt m _ _ _ hm
  obtain ⟨a0, len0, cap0, rfl⟩ := okWide_slice Tryz.underlying23 (hval 0 23 v0 rfl rfl)
  obtain ⟨cs0, hl0, w0⟩ := open_ops rfl h0
  subst hl0
  have k1 := h1
  have lt1 : ∀ x ∈ p1, x.block < W.heap.size := by obtain ⟨m, hm⟩ := k1; exact DataW.trod_lt m _ _ _ hm
  obtain ⟨a1, len1, cap1, rfl⟩ := okWide_slice Tryz.underlying23 (hval 1 23 v1 rfl rfl)
  obtain ⟨cs1, hl1, w1⟩ := open_ops rfl h1
  subst hl1
  obtain ⟨a2, rfl, rfl, rfl, w2⟩ := open_int Tryz.underlying3 (hval 2 3 v2 rfl rfl) h2
  clear hA0 hval0
  refine (walk a0 cap0 cs0 a1 cap1 cs1 a2 W w0 w1 (bounds_i64 w2)).mono fun e W' ⟨he, bel⟩ => ?_
  subst he
  exact ⟨_, rfl, _, _, _, [], _, [], hW', trodAll_mk1 (shut_bool Tryz.underlying4 _), (trodAll_cons_mk (Below.trod laidOut (by kernel_rfl) (of_decide_eq_true (by kernel_rfl)) k0 bel lt0) (trodAll_cons_mk (Below.trod laidOut (by kernel_rfl) (of_decide_eq_true (by kernel_rfl)) k1 bel lt1) (trodAll_cons_mk (shut_int Tryz.underlying3 w2) trodAll_mk0))), rfl, bel.frame _, fun h => by cases h⟩

theorem over : Rows.viewApartRow.holds Tryz.pinned (OpenSpec.ofChange Rows.viewApartSpec) :=
  OpenClaim.holds_of_wide 4 Tryz.f4 rfl rfl rfl rfl rfl rfl rfl ⟨rfl, rfl, rfl, rfl, rfl⟩ rfl rfl rfl rfl rfl (by kernel_rfl) Tryz.func4 (by kernel_rfl)
    (of_decide_eq_true (by kernel_rfl)) (by unfold Func.isWrapper; first | (rw [if_pos (by decide +kernel)]; kernel_rfl) | (rw [if_neg (by decide +kernel)]; exact ⟨rfl, rfl⟩))
    (fun os started H enc _ => lifted os started H enc)

theorem proved : Rows.ViewApartSaid := over
#print axioms proved
end Go.Proofs.YtomlbifplliakaaGreat.viewApart
