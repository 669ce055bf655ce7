/- What is proved: the given statement ViewFreshSaid: for every number of a block and every word the law returns true, and its arguments read afterwards as before. There are no further conditions. -/
import Derived.Test.YthoeogabbjcciaaRows
import Derived.Test.YthoeogabbjcciaaAg
namespace Go.Proofs.Ythoeogabbjcciaa.viewFresh
open Go.RowKit Go.Maps Go.ChangeMaps Go.ChangeShapes Go.WideShapes Go.ChangeAt Go.Deep Go.Joins
set_option linter.unusedVariables false

/-- Is a block fresh, by what is written, and left alone? -/
theorem fresh_new (k : Nat) (hk : k < 96) (S : Vw) (h1 : S.own (200 + (k : Int)) = none) (h2 : S.away k = false) : freshB S M0 k = true := by
  have h3 : M0.read (200 + (k : Int)) = 0 := by
    have := M0_read (200 + k) (by omega) (by omega)
    rw [← this]; congr 1
  unfold freshB Vw.word
  rw [h1, h2, h3]
  simp
  omega
theorem fresh_put (k : Nat) (hk : k < 96) (S : Vw) (x : Int) (h1 : S.own (200 + (k : Int)) = some x) (h2 : S.away k = false) : freshB S M0 k = decide (x = 0) := by
  have h3 : M0.read (200 + (k : Int)) = 0 := by
    have := M0_read (200 + k) (by omega) (by omega)
    rw [← this]; congr 1
  unfold freshB Vw.word
  rw [h1, h2, h3]
  have : decide (0 ≤ (k : Int) ∧ (k : Int) < 96) = true := by simp; omega
  rw [this]
  simp
theorem fresh_away (k : Nat) (S : Vw) (h2 : S.away k = true) : freshB S M0 k = false := by
  unfold freshB
  rw [h2]
  simp

theorem open_owner (k : Nat) (hk : k < 96) : openB (200 + (k : Int)) = true := (openB_iff _).2 (.inl (by omega))

set_option maxHeartbeats 2000000 in
theorem walk (a x : Int) (w : World) (_ : -9223372036854775808 ≤ a ∧ a ≤ 9223372036854775807) (hx : 0 ≤ x ∧ x ≤ 18446744073709551615) :
    Calls Try.prog 4 #[.int .i64 a, .int .u64 x] w fun e w' => e = .returned (.bool true) ∧ Below w.heap.size w w' := by
  obtain ⟨k, hk96, hk1, hk2⟩ := place_in a 96 (by omega) (by omega)
  have hk : k < 96 := by omega
  have HX : Hid ((Lit.int .u64 x).wf = true) := WalkArith.wf_u64 hx
  have hwk : (Lit.int .i64 (k : Int)).wf = true := WalkArith.wf_i64 (by omega)
  have HOP : Hid (openB (200 + (k : Int)) = true) := open_owner k hk
  have HK : Hid (k < 96) := hk
  obtain ⟨z, hz⟩ : ∃ z, (x == 0) = z := ⟨_, rfl⟩
  have hz2 : decide (x = 0) = z := by rw [← hz]; exact (Bool.beq_eq_decide_eq x 0).symm
  have HZ : Hid (decide (x = 0) = z) := hz2
  clear hz2 hx
  go_enter Try.func4, Try.ntmps4
  go_wp2_with fail
  refine (lives_any _).mono ?_
  rintro e w0 ⟨rfl, hb0⟩
  go_wp2_with fail
  refine (image_nil _).mono ?_
  rintro e w1 ⟨G, rfl, hr, hG, hb1⟩
  go_wp2_with fail
  refine (load_img G headN _ hr (fun i _ => headN_wf i)).mono ?_
  rintro e w2 ⟨L, rfl, hm2, hL, hb2⟩
  have HM2 : Hid (MemIs w2 L M0) := hm2
  have HL : Hid (∀ j ∈ L.blocks, w1.heap.size ≤ j ∧ j < w2.heap.size) := fun j hj => ⟨hL j hj, hm2.all_lt j hj⟩
  have HB2 : Hid (Below w.heap.size w w2) := (hb0.trans (hb1.mono hb0.size)).trans (hb2.mono (hb0.trans (hb1.mono hb0.size)).size)
  clear hr hG hb0 hb1 hm2 hL hb2
  go_wp2_with fail
  refine (vnew_yes L M0 w2 HM2.out M0_len).mono ?_
  rintro e w3 ⟨rfl, hv3, hb3⟩
  obtain ⟨A, hA⟩ : ∃ A, newLay L.mb w2.heap.size = A := ⟨_, rfl⟩
  have HA : Hid (∀ j ∈ A.all, w2.heap.size ≤ j ∧ j < w3.heap.size) := fun j hj => ⟨by rw [← hA] at hj; simp [newLay, VLay.all, VLay.blocks] at hj; omega, by rw [hA] at hv3; exact hv3.all_lt j hj⟩
  have HAA : Hid (A.vb = w2.heap.size) := by rw [← hA]; rfl
  have HAM : Hid (A.mb = L.mb) := by rw [← hA]; rfl
  have HV3 : Hid (ViewIs w3 A Vw.new 0) := by rw [← hA]; exact hv3
  have HM3 : Hid (MemIs w3 L M0) := HM2.out.later hb3
  have HB3 : Hid (Below w.heap.size w w3) := HB2.out.trans (hb3.mono HB2.out.size)
  have HS3 : Hid (w2.heap.size ≤ w3.heap.size) := hb3.size
  rw [← HAA.out]
  clear hv3 hb3 hA
  go_wp2_with fail
  refine (vnew_yes L M0 w3 HM3.out M0_len).mono ?_
  rintro e w4 ⟨rfl, hv4, hb4⟩
  obtain ⟨B, hB⟩ : ∃ B, newLay L.mb w3.heap.size = B := ⟨_, rfl⟩
  have HBl : Hid (∀ j ∈ B.all, w3.heap.size ≤ j ∧ j < w4.heap.size) := fun j hj => ⟨by rw [← hB] at hj; simp [newLay, VLay.all, VLay.blocks] at hj; omega, by rw [hB] at hv4; exact hv4.all_lt j hj⟩
  have HAB : Hid (B.vb = w3.heap.size) := by rw [← hB]; rfl
  have HBM : Hid (B.mb = L.mb) := by rw [← hB]; rfl
  have HVA4 : Hid (ViewIs w4 A Vw.new 0) := HV3.out.later hb4
  have HVB4 : Hid (ViewIs w4 B Vw.new 0) := by rw [← hB]; exact hv4
  have HM4 : Hid (MemIs w4 L M0) := HM3.out.later hb4
  have HB4 : Hid (Below w.heap.size w w4) := HB3.out.trans (hb4.mono HB3.out.size)
  rw [← HAB.out]
  clear hv4 hb4 hB HV3
  -- a.Fresh(block)
  have rA : ∀ (S : Vw) (N : Nat) (V : VLay) (W : World), V.mb = L.mb → ViewIs W V S N → MemIs W L M0 → Calls Try.prog 21 #[.pointer (some ⟨V.vb, 0, none⟩), .int .i64 (k : Int)] W fun e w' => e = .returned (.bool (freshB S M0 k)) ∧ w' = W := fun S N V W hm hv hmm => vfresh_yes V S N L M0 k W hv hmm hm (by omega) (by omega)
  have RA : Hid _ := rA
  clear rA
  have f0 : Hid (freshB Vw.new M0 (k : Int) = true) := fresh_new k HK.out _ rfl rfl
  have F1 : Hid (Calls Try.prog 21 #[.pointer (some ⟨A.vb, 0, none⟩), .int .i64 (k : Int)] w4 fun e w' => e = .returned (.bool true) ∧ w' = w4) := by
    have := RA.out _ _ A w4 HAM.out HVA4.out HM4.out
    rw [f0.out] at this
    exact this
  go_wp2_with fail
  refine Calls.mono (Hid.out F1) ?_
  rintro e w' ⟨rfl, hw⟩
  obtain rfl := hw.symm
  clear F1
  go_wp2_with fail
  refine (vwrite_yes A Vw.new 0 (200 + (k : Int)) x w4 HVA4.out HOP.out (by omega) (WalkArith.wf_i64 (by omega)) HX.out).mono ?_
  rintro e w5 ⟨rfl, hv5, ho5⟩
  obtain ⟨SA, hSA⟩ : ∃ S : Vw, ({ Vw.new with own := upd Vw.new.own (200 + (k : Int)) (some x) } : Vw) = S := ⟨_, rfl⟩
  rw [hSA] at hv5
  have HSO : Hid (SA.own (200 + (k : Int)) = some x ∧ SA.away = fun _ => false) := by rw [← hSA]; exact ⟨upd_same _ _ _, rfl⟩
  have HVA5 : Hid (ViewIs w5 A SA 1) := hv5
  have hAob : A.ob ∈ A.all := by simp [VLay.all, VLay.blocks]
  have HVB5 : Hid (ViewIs w5 B Vw.new 0) := HVB4.out.kept ho5 (fun j hj hj2 => by
    simp only [List.mem_singleton] at hj2
    have h1 := HBl.out j hj
    have h2 := HA.out A.ob hAob
    omega)
  have HM5 : Hid (MemIs w5 L M0) := HM4.out.kept ho5 (fun j hj hj2 => by
    simp only [List.mem_singleton] at hj2
    have h1 := HL.out j hj
    have h2 := HA.out A.ob hAob
    omega)
  have HB5 : Hid (Below w.heap.size w w5) := HB4.out.trans (ho5.below HB4.out.size (fun j hj => by
    simp only [List.mem_singleton] at hj
    have h2 := HA.out A.ob hAob
    have := HB2.out.size
    omega))
  have HS5 : Hid (w4.heap.size ≤ w5.heap.size) := ho5.size
  clear hv5 ho5 hSA
  have F2 : Hid (Calls Try.prog 21 #[.pointer (some ⟨A.vb, 0, none⟩), .int .i64 (k : Int)] w5 fun e w' => e = .returned (.bool z) ∧ w' = w5) := by
    have := RA.out _ _ A w5 HAM.out HVA5.out HM5.out
    rw [fresh_put k HK.out SA x HSO.out.1 (by rw [HSO.out.2]), HZ.out] at this
    exact this
  have F3 : Hid (Calls Try.prog 21 #[.pointer (some ⟨B.vb, 0, none⟩), .int .i64 (k : Int)] w5 fun e w' => e = .returned (.bool true) ∧ w' = w5) := by
    have := RA.out _ _ B w5 HBM.out HVB5.out HM5.out
    rw [f0.out] at this
    exact this
  go_wp2_with fail
  refine Calls.mono (Hid.out F2) ?_
  rintro e w' ⟨rfl, hw⟩
  obtain rfl := hw.symm
  go_wp2_with fail
  refine Calls.mono (Hid.out F3) ?_
  rintro e w' ⟨rfl, hw⟩
  obtain rfl := hw.symm
  clear F2 F3
  go_wp2_with fail
  have hbX : Below w5.heap.size w5 ((w5.alloc (.cells #[.int .i64 (k : Int)] 3)).alloc (.cells #[.int .i64 (k : Int)] 3)) := ((Below.refl _ _).alloc (Nat.le_refl _) _).alloc (by simp) _
  have hi1 : IntsAt ((w5.alloc (.cells #[.int .i64 (k : Int)] 3)).alloc (.cells #[.int .i64 (k : Int)] 3)) (some ⟨w5.heap.size, 0, none⟩) 1 (fun _ => (k : Int)) := .inr ⟨_, _, rfl, by simp; omega, fun i hi => by
    obtain rfl : i = 0 := by omega
    simp [go_sem]⟩
  have hi2 : IntsAt ((w5.alloc (.cells #[.int .i64 (k : Int)] 3)).alloc (.cells #[.int .i64 (k : Int)] 3)) (some ⟨w5.heap.size + 1, 0, none⟩) 1 (fun _ => (k : Int)) := .inr ⟨_, _, rfl, by simp, fun i hi => by
    obtain rfl : i = 0 := by omega
    have hs : w5.heap.size + 1 = (w5.alloc (.cells #[.int .i64 (k : Int)] 3)).heap.size := by simp
    rw [hs]
    simp [go_sem]⟩
  obtain ⟨X, hX⟩ : ∃ X, (w5.alloc (.cells #[.int .i64 (k : Int)] 3)).alloc (.cells #[.int .i64 (k : Int)] 3) = X := ⟨_, rfl⟩
  rw [hX] at hbX hi1 hi2 ⊢
  have HVA6 : Hid (ViewIs X A SA 1) := HVA5.out.later hbX
  have HVB6 : Hid (ViewIs X B Vw.new 0) := HVB5.out.later hbX
  have HM6 : Hid (MemIs X L M0) := HM5.out.later hbX
  have HB6 : Hid (Below w.heap.size w X) := HB5.out.trans (hbX.mono HB5.out.size)
  have HS6 : Hid (w4.heap.size ≤ X.heap.size) := Nat.le_trans HS5.out hbX.size
  clear hX hbX
  refine (vavoid_any B Vw.new 0 _ _ 1 1 1 1 _ _ X HVB6.out hi1 (fun i hi => hwk) (by omega) (by unfold maxLen; omega) hi2 (fun i hi => hwk) (by omega) (by unfold maxLen; omega)).mono ?_
  rintro e w7 ⟨g1, g2, rfl, hg1, hg2, hv7, ho7⟩
  obtain ⟨B', hB'⟩ : ∃ B', B.shun g1 g2 = B' := ⟨_, rfl⟩
  obtain ⟨SB, hSB⟩ : ∃ S : Vw, ({ Vw.new with away := namedI (fun _ => (k : Int)) 1, awayN := namedI (fun _ => (k : Int)) 1 } : Vw) = S := ⟨_, rfl⟩
  have HB' : Hid (B'.vb = B.vb ∧ B'.mb = L.mb) := by rw [← hB']; exact ⟨rfl, HBM.out⟩
  have HSB : Hid (SB.away (k : Int) = true ∧ SB.awayN (k : Int) = true) := by
    rw [← hSB]
    constructor
    · show namedI _ _ _ = true
      unfold namedI
      exact decide_eq_true ⟨0, by omega, rfl⟩
    · show namedI _ _ _ = true
      unfold namedI
      exact decide_eq_true ⟨0, by omega, rfl⟩
  have HSB2 : Hid (SB.own = fun _ => none) := by rw [← hSB]; rfl
  rw [hB', hSB] at hv7
  have HVB7 : Hid (ViewIs w7 B' SB 0) := hv7
  have hBvb : B.vb ∈ B.all := by simp [VLay.all, VLay.blocks]
  have HVA7 : Hid (ViewIs w7 A SA 1) := HVA6.out.kept ho7 (fun j hj hj2 => by
    simp only [List.mem_singleton] at hj2
    have h1 := HA.out j hj
    have h2 := HBl.out B.vb hBvb
    omega)
  have HM7 : Hid (MemIs w7 L M0) := HM6.out.kept ho7 (fun j hj hj2 => by
    simp only [List.mem_singleton] at hj2
    have h1 := HL.out j hj
    have h2 := HBl.out B.vb hBvb
    have := HS3.out
    omega)
  have HB7 : Hid (Below w.heap.size w w7) := HB6.out.trans (ho7.below HB6.out.size (fun j hj => by
    simp only [List.mem_singleton] at hj
    have h2 := HBl.out B.vb hBvb
    have := HB3.out.size
    omega))
  clear hi1 hi2 hg1 hg2 hv7 ho7 hB' hSB HVA6 HVB6 HM6
  rw [← HB'.out.1]
  have F4 : Hid (Calls Try.prog 21 #[.pointer (some ⟨B'.vb, 0, none⟩), .int .i64 (k : Int)] w7 fun e w' => e = .returned (.bool false) ∧ w' = w7) := by
    have := RA.out _ _ B' w7 HB'.out.2 HVB7.out HM7.out
    rw [fresh_away k SB HSB.out.1] at this
    exact this
  have F5 : Hid (Calls Try.prog 19 #[.pointer (some ⟨B'.vb, 0, none⟩), .int .i64 (k : Int)] w7 fun e w' => e = .returned (.bool true) ∧ w' = w7) := by
    have := away_any B' SB 0 (k : Int) w7 HVB7.out hwk
    rw [HSB.out.1] at this
    exact this
  have F6 : Hid (Calls Try.prog 20 #[.pointer (some ⟨B'.vb, 0, none⟩), .int .i64 (k : Int)] w7 fun e w' => e = .returned (.bool true) ∧ w' = w7) := by
    have := awayN_any B' SB 0 (k : Int) w7 HVB7.out hwk
    rw [HSB.out.2] at this
    exact this
  go_wp2_with fail
  refine Calls.mono (Hid.out F4) ?_
  rintro e w' ⟨rfl, hw⟩
  obtain rfl := hw.symm
  go_wp2_with fail
  refine Calls.mono (Hid.out F5) ?_
  rintro e w' ⟨rfl, hw⟩
  obtain rfl := hw.symm
  go_wp2_with fail
  refine Calls.mono (Hid.out F6) ?_
  rintro e w' ⟨rfl, hw⟩
  obtain rfl := hw.symm
  clear F4 F5 F6
  go_wp2_with fail
  refine (vavoid_any B' SB 0 none none 0 0 0 0 (fun _ => 0) (fun _ => 0) w7 HVB7.out (.inl rfl) (fun i hi => absurd hi (Nat.not_lt_zero i)) (by omega) (by unfold maxLen; omega) (.inl rfl) (fun i hi => absurd hi (Nat.not_lt_zero i)) (by omega) (by unfold maxLen; omega)).mono ?_
  rintro e w8 ⟨g3, g4, rfl, hg3, hg4, hv8, ho8⟩
  obtain ⟨B2, hB2⟩ : ∃ B2, B'.shun g3 g4 = B2 := ⟨_, rfl⟩
  obtain ⟨SC, hSC⟩ : ∃ S : Vw, ({ SB with away := namedI (fun _ => 0) 0, awayN := namedI (fun _ => 0) 0 } : Vw) = S := ⟨_, rfl⟩
  have HB2' : Hid (B2.vb = B'.vb ∧ B2.mb = L.mb) := by rw [← hB2]; exact ⟨rfl, HB'.out.2⟩
  have HSC : Hid (SC.away (k : Int) = false) := by
    rw [← hSC]
    exact congrFun (namedI_zero (fun _ => (0 : Int))) (k : Int)
  have HSC2 : Hid (SC.own (200 + (k : Int)) = none) := by
    rw [← hSC]
    show SB.own _ = none
    rw [HSB2.out]
  rw [hB2, hSC] at hv8
  have HVB8 : Hid (ViewIs w8 B2 SC 0) := hv8
  have HVA8 : Hid (ViewIs w8 A SA 1) := HVA7.out.kept ho8 (fun j hj hj2 => by
    simp only [List.mem_singleton] at hj2
    have h1 := HA.out j hj
    have h2 := HBl.out B.vb hBvb
    have := HB'.out.1
    omega)
  have HM8 : Hid (MemIs w8 L M0) := HM7.out.kept ho8 (fun j hj hj2 => by
    simp only [List.mem_singleton] at hj2
    have h1 := HL.out j hj
    have h2 := HBl.out B.vb hBvb
    have := HS3.out
    have := HB'.out.1
    omega)
  have HB8 : Hid (Below w.heap.size w w8) := HB7.out.trans (ho8.below HB7.out.size (fun j hj => by
    simp only [List.mem_singleton] at hj
    have h2 := HBl.out B.vb hBvb
    have := HB3.out.size
    have := HB'.out.1
    omega))
  clear hg3 hg4 hv8 ho8 hB2 hSC
  rw [← HB2'.out.1]
  go_wp2_with fail
  refine (vreset_any A SA 1 w8 HVA8.out).mono ?_
  rintro e w9 ⟨rfl, hv9, ho9⟩
  obtain ⟨A2, hA2⟩ : ∃ A2, A.anew w8.heap.size = A2 := ⟨_, rfl⟩
  have HA2 : Hid (A2.vb = A.vb ∧ A2.mb = L.mb) := by rw [← hA2]; exact ⟨rfl, HAM.out⟩
  rw [hA2] at hv9
  have HSD : Hid (SA.clean.own (200 + (k : Int)) = none ∧ SA.clean.away (k : Int) = false) := ⟨rfl, by show SA.away _ = false; rw [HSO.out.2]⟩
  obtain ⟨SD, hSD⟩ : ∃ S, SA.clean = S := ⟨_, rfl⟩
  rw [hSD] at hv9 HSD
  have HVA9 : Hid (ViewIs w9 A2 SD 0) := hv9
  have hAvb : A.vb ∈ A.all := by simp [VLay.all, VLay.blocks]
  have HS8 : Hid (∀ j ∈ B2.all, j ≠ A.vb) := by
    intro j hj e
    subst e
    have h2 := HA.out A.vb hAvb
    have hob := HVB8.out.obj
    have hoa := HVA8.out.obj
    simp only [VLay.all, VLay.blocks, List.mem_append, List.mem_cons, List.not_mem_nil, or_false, Option.mem_toList] at hj
    rcases hj with ((hj | hj | hj | hj) | hj) | hj
    · have h3 := HBl.out B.vb hBvb
      have := HB2'.out.1
      have := HB'.out.1
      omega
    · obtain ⟨_, _, hb⟩ := HVB8.out.own.block
      rw [← hj, hoa] at hb
      cases hb
    · obtain ⟨_, _, hb⟩ := HVB8.out.seen.block
      rw [← hj, hoa] at hb
      cases hb
    · obtain ⟨_, _, hb⟩ := HVB8.out.mine.block
      rw [← hj, hoa] at hb
      cases hb
    · have := HVB8.out.away
      rw [hj] at this
      obtain ⟨_, _, hb⟩ := this.block
      rw [hoa] at hb
      cases hb
    · have := HVB8.out.awayN
      rw [hj] at this
      obtain ⟨_, _, hb⟩ := this.block
      rw [hoa] at hb
      cases hb
  have HVB9 : Hid (ViewIs w9 B2 SC 0) := HVB8.out.kept ho9 (fun j hj hj2 => HS8.out j hj (by simpa using hj2))
  have HM9 : Hid (MemIs w9 L M0) := HM8.out.kept ho9 (fun j hj hj2 => by
    simp only [List.mem_singleton] at hj2
    have h1 := HL.out j hj
    have h2 := HA.out A.vb hAvb
    omega)
  have HB9 : Hid (Below w.heap.size w w9) := HB8.out.trans (ho9.below HB8.out.size (fun j hj => by
    simp only [List.mem_singleton] at hj
    have h2 := HA.out A.vb hAvb
    have := HB2.out.size
    omega))
  clear hv9 ho9 hA2 hSD HS8
  rw [← HA2.out.1]
  have F7 : Hid (Calls Try.prog 21 #[.pointer (some ⟨B2.vb, 0, none⟩), .int .i64 (k : Int)] w9 fun e w' => e = .returned (.bool true) ∧ w' = w9) := by
    have := RA.out _ _ B2 w9 HB2'.out.2 HVB9.out HM9.out
    rw [fresh_new k HK.out SC HSC2.out HSC.out] at this
    exact this
  have F8 : Hid (Calls Try.prog 21 #[.pointer (some ⟨A2.vb, 0, none⟩), .int .i64 (k : Int)] w9 fun e w' => e = .returned (.bool true) ∧ w' = w9) := by
    have := RA.out _ _ A2 w9 HA2.out.2 HVA9.out HM9.out
    rw [fresh_new k HK.out SD HSD.out.1 HSD.out.2] at this
    exact this
  have F9 : Hid (Calls Try.prog 19 #[.pointer (some ⟨B2.vb, 0, none⟩), .int .i64 (k : Int)] w9 fun e w' => e = .returned (.bool false) ∧ w' = w9) := by
    have := away_any B2 SC 0 (k : Int) w9 HVB9.out hwk
    rw [HSC.out] at this
    exact this
  go_wp2_with fail
  refine Calls.mono (Hid.out F7) ?_
  rintro e w' ⟨rfl, hw⟩
  obtain rfl := hw.symm
  go_wp2_with fail
  refine Calls.mono (Hid.out F8) ?_
  rintro e w' ⟨rfl, hw⟩
  obtain rfl := hw.symm
  go_wp2_with fail
  refine Calls.mono (Hid.out F9) ?_
  rintro e w' ⟨rfl, hw⟩
  obtain rfl := hw.symm
  go_wp2
  go_ret
  exact ⟨rfl, HB9.out⟩

set_option maxRecDepth 100000 in
theorem lifted (os : Os) (started : os.Started) (H : Type) (enc : TypeId × Value → H) :
    ReturnsInHanded {} Try.checked os 4 .any (Rows.viewFreshSpec.pre6 enc Try.prog Try.f4 Rows.viewFreshRow.domain false) (Rows.viewFreshSpec.post enc Try.prog Try.f4 false true false false) := by
  refine returnsInHanded_of_change (C := Try.checked) own started (by kernel_rfl) Try.func4
    (ChangeSpec.witness6 (enc := enc) (C := Try.checked) false ⟨#[], #[.int .i64 0, .int .u64 0], []⟩ 8 (by kernel_rfl) (by kernel_rfl) (by kernel_rfl) (by kernel_rfl)) ?_
  intro W base args ds gs before hval0 hW hcnd _
  have hval : ∀ (j : Nat) t v, Try.f4.params[j]? = some t → args[j]? = some v → Value.okWide Try.prog W .any base t v := hval0
  have hW' := hW
  obtain ⟨p, q, hA0, hV, rfl, hfz, hnd⟩ := hW
  have hA : DataW.TrodAll enc Try.prog W 0 (fun _ => true) true Try.f4.params.toList args.toList ds p := hA0
  rw [Try.params4] at hA hval
  obtain ⟨v0, vs0, d0, ds0, p0, q0, hargs, rfl, rfl, h0, r0⟩ := trodAll_cons hA
  obtain ⟨v1, vs1, d1, ds1, p1, q1, rfl, rfl, rfl, h1, r1⟩ := trodAll_cons r0
  obtain ⟨rfl, rfl, rfl⟩ := trodAll_nil r1
  obtain rfl : args = #[v0, v1] := by cases args; simp_all
  obtain ⟨rfl, rfl⟩ := trodVars_none hV
  obtain ⟨a0, rfl, rfl, rfl, w0⟩ := open_int Try.underlying3 (hval 0 3 v0 rfl rfl) h0
  obtain ⟨a1, rfl, rfl, rfl, w1⟩ := open_int Try.underlying22 (hval 1 22 v1 rfl rfl) h1
  clear hA0 hval0
  refine (walk a0 a1 W (bounds_i64 w0) (bounds_u64 w1)).mono fun e W' ⟨he, bel⟩ => ?_
  subst he
  exact ⟨_, rfl, _, _, _, [], _, [], hW', trodAll_mk1 (shut_bool Try.underlying4 _), (trodAll_cons_mk (shut_int Try.underlying3 w0) (trodAll_cons_mk (shut_int Try.underlying22 w1) trodAll_mk0)), rfl, bel.frame _, fun h => by cases h⟩

theorem over : Rows.viewFreshRow.holds Try.pinned (OpenSpec.ofChange Rows.viewFreshSpec) :=
  OpenClaim.holds_of_wide 4 Try.f4 rfl rfl rfl rfl rfl rfl rfl ⟨rfl, rfl, rfl, rfl, rfl⟩ rfl rfl rfl rfl rfl (by kernel_rfl) Try.func4 (by kernel_rfl)
    (of_decide_eq_true (by kernel_rfl)) (by unfold Func.isWrapper; first | (rw [if_pos (by decide +kernel)]; kernel_rfl) | (rw [if_neg (by decide +kernel)]; exact ⟨rfl, rfl⟩))
    (fun os started H enc _ => lifted os started H enc)

theorem proved : Rows.ViewFreshSaid := over
#print axioms proved
end Go.Proofs.Ythoeogabbjcciaa.viewFresh
