/- shortFloat, of numbers that are ordinary and no powers of two. -/
import Derived.Test.YtnebmbabfghlaaaDoorSumsE
namespace Go.Proofs.YtnebmbabfghlaaaDoor
open Go.RowKit

set_option maxRecDepth 20000 in
set_option maxHeartbeats 4000000 in
/-- An ordinary number that is no power of two: the second way. -/
theorem short_mid (TH TL : Nat → Int) (m e : Int) (hT : ∀ i, U64 (TH i) ∧ U64 (TL i)) (hm : U64 m) (he : -1085 ≤ e ∧ e ≤ 1000) (hne : (m == 9223372036854775808) = false) :
    ∃ d p, (∀ w, PTab w TH TL → 3 < w.heap.size → Calls Tryd.prog 75 #[.int .u64 m, .int .i64 e] w fun en w' => en = .returned (.tuple #[.int .u64 d, .int .i64 p]) ∧ Below w.heap.size w w') ∧ U64 d ∧ -400 ≤ p ∧ p ≤ 400 := by
  obtain ⟨usc, usc_any, usc_u64⟩ := parts_usc
  obtain ⟨nud, nud_any, nud_u64⟩ := parts_nud
  obtain ⟨cei, cei_any, cei_u64⟩ := parts_cei
  obtain ⟨flo, flo_any, flo_u64⟩ := parts_flo
  obtain ⟨rou, rou_any, rou_u64⟩ := parts_rou
  have HMm : Hid (U64 m) := hm
  obtain ⟨m0, m1⟩ := hm
  obtain ⟨e0, e1⟩ := he
  obtain ⟨L, hL, L0, L1⟩ : ∃ L : Int, (e + 11) * 78913 / 262144 = L ∧ -340 ≤ L ∧ L ≤ 340 := ⟨_, rfl, by omega, by omega⟩
  obtain ⟨lp, hlp, lp0, lp1⟩ : ∃ lp : Int, -L * 108853 / 32768 = lp ∧ -2000 ≤ lp ∧ lp ≤ 2000 := ⟨_, rfl, by omega, by omega⟩
  have HL : Hid (∀ w, Calls Tryd.prog 70 #[.int .i64 (e + 11)] w fun e w' => e = .returned (.int .i64 L) ∧ w' = w) := fun w => by rw [← hL]; exact log10_any _ (by omega) w
  have HP : Hid (∀ w, Calls Tryd.prog 82 #[.int .i64 (-L)] w fun e w' => e = .returned (.int .i64 lp) ∧ w' = w) := fun w => by rw [← hlp]; exact log2_any _ (by omega) w
  obtain ⟨j, hj⟩ : ∃ j : Nat, -L = (j : Int) - 348 := ⟨(348 - L).toNat, by omega⟩
  have HJ : Hid (-L = (j : Int) - 348) := hj
  have hj1 : j < 696 := by omega
  obtain ⟨od, hod, od0, od1⟩ : ∃ od : Int, bits .and .i64 (m / 2048) 1 = od ∧ 0 ≤ od ∧ od ≤ 1 := ⟨_, rfl, (and_small _ 1 (by decide)).1, (and_small _ 1 (by decide)).2⟩
  obtain ⟨ux, hux⟩ : ∃ ux, usc (IntKind.u64.wrap (m - 1024)) (TH j) (TL j) (-(e + lp + 3)) = ux := ⟨_, rfl⟩
  obtain ⟨uy, huy⟩ : ∃ uy, usc (IntKind.u64.wrap (m + 1024)) (TH j) (TL j) (-(e + lp + 3)) = uy := ⟨_, rfl⟩
  have hux' : U64 ux := by rw [← hux]; exact usc_u64.out _ _ _ _
  have huy' : U64 uy := by rw [← huy]; exact usc_u64.out _ _ _ _
  have HX : Hid (∀ w b, Scal w b (TH j) (TL j) (-(e + lp + 3)) → Calls Tryd.prog 83 #[.int .u64 (IntKind.u64.wrap (m - 1024)), .pointer (some ⟨b, 0, none⟩)] w fun e w' => e = .returned (.int .u64 ux) ∧ ∃ q, w' = w.drewN q) := fun w b h => by rw [← hux]; exact usc_any.out _ _ _ _ (u64_wrap _) (hT j).1 (hT j).2 _ _ h
  have HY : Hid (∀ w b, Scal w b (TH j) (TL j) (-(e + lp + 3)) → Calls Tryd.prog 83 #[.int .u64 (IntKind.u64.wrap (m + 1024)), .pointer (some ⟨b, 0, none⟩)] w fun e w' => e = .returned (.int .u64 uy) ∧ ∃ q, w' = w.drewN q) := fun w b h => by rw [← huy]; exact usc_any.out _ _ _ _ (u64_wrap _) (hT j).1 (hT j).2 _ _ h
  have HM : Hid (∀ w b, Scal w b (TH j) (TL j) (-(e + lp + 3)) → Calls Tryd.prog 83 #[.int .u64 m, .pointer (some ⟨b, 0, none⟩)] w fun en w' => en = .returned (.int .u64 (usc m (TH j) (TL j) (-(e + lp + 3)))) ∧ ∃ q, w' = w.drewN q) := fun w b h => usc_any.out _ _ _ _ HMm.out (hT j).1 (hT j).2 _ _ h
  clear hux huy
  obtain ⟨nx, hnx⟩ : ∃ nx, nud ux od = nx := ⟨_, rfl⟩
  obtain ⟨ny, hny⟩ : ∃ ny, nud uy (-od) = ny := ⟨_, rfl⟩
  have hnx' : U64 nx := by rw [← hnx]; exact nud_u64.out _ _
  have hny' : U64 ny := by rw [← hny]; exact nud_u64.out _ _
  have HX1 : Hid (∀ w, Calls Tryd.prog 84 #[.int .u64 ux, .int .i64 od] w fun e w' => e = .returned (.int .u64 nx) ∧ w' = w) := fun w => by rw [← hnx]; exact nud_any.out _ _ hux' (by omega) _
  have HY1 : Hid (∀ w, Calls Tryd.prog 84 #[.int .u64 uy, .int .i64 (-od)] w fun e w' => e = .returned (.int .u64 ny) ∧ w' = w) := fun w => by rw [← hny]; exact nud_any.out _ _ huy' (by omega) _
  clear hnx hny
  obtain ⟨dn, hdn⟩ : ∃ dn, cei nx = dn := ⟨_, rfl⟩
  obtain ⟨dx, hdx⟩ : ∃ dx, flo ny = dx := ⟨_, rfl⟩
  have hdn' : U64 dn := by rw [← hdn]; exact cei_u64.out _
  have hdx' : U64 dx := by rw [← hdx]; exact flo_u64.out _
  have HX2 : Hid (∀ w, Calls Tryd.prog 85 #[.int .u64 nx] w fun e w' => e = .returned (.int .u64 dn) ∧ w' = w) := fun w => by rw [← hdn]; exact cei_any.out _ hnx' _
  have HY2 : Hid (∀ w, Calls Tryd.prog 86 #[.int .u64 ny] w fun e w' => e = .returned (.int .u64 dx) ∧ w' = w) := fun w => by rw [← hdx]; exact flo_any.out _ hny' _
  have HR : Hid (∀ w, Calls Tryd.prog 87 #[.int .u64 (usc m (TH j) (TL j) (-(e + lp + 3)))] w fun en w' => en = .returned (.int .u64 (rou (usc m (TH j) (TL j) (-(e + lp + 3))))) ∧ w' = w) := fun w => rou_any.out _ (usc_u64.out _ _ _ _) _
  obtain ⟨n0, n1⟩ := hdn'
  obtain ⟨x0, x1⟩ := hdx'
  clear hdn hdx hux' huy' hnx' hny' hj hL hlp hT
  obtain ⟨t1, ht1⟩ : ∃ t1, IntKind.u64.wrap (dx.tdiv 10) = t1 := ⟨_, rfl⟩
  have ht1' : U64 t1 := by rw [← ht1]; exact u64_wrap _
  obtain ⟨t0, ht0⟩ : ∃ t0, IntKind.u64.wrap (t1 * 10) = t0 := ⟨_, rfl⟩
  have HT1 : Hid (U64 t1) := ht1'
  obtain ⟨t10, t11⟩ := ht1'
  have ht0' : U64 t0 := by rw [← ht0]; exact u64_wrap _
  obtain ⟨t00, t01⟩ := ht0'
  by_cases hA : t0 < dn
  · by_cases hB : dn < dx
    · apply Exists.intro
      apply Exists.intro
      refine ⟨fun w hP hsz => ?_, ?_, ?_, ?_⟩
      have HW : Hid (PTab w TH TL) := hP
      clear hP
      go_enter Tryd.func75, Tryd.ntmps75
      go_wp2_with fail
      refine Calls.mono (HL.out _) ?_
      rintro en w1 ⟨rfl, rfl⟩
      go_wp2_with fail
      refine Calls.mono (HP.out _) ?_
      rintro en w2 ⟨rfl, rfl⟩
      go_wp2_with fail
      refine Calls.mono (prescale_new TH TL _ j e (-L) lp HJ.out HW.out hj1 hsz (by omega) (by omega)) ?_
      rintro en w2 ⟨rfl, hsc, hb⟩
      have HS : Hid (Scal w2 w1.heap.size (TH j) (TL j) (-(e + lp + 3))) := hsc
      clear hsc
      go_wp2_with fail
      refine Calls.mono (HX.out _ _ HS.out) ?_
      rintro en w3 ⟨rfl, q1, rfl⟩
      go_wp2_with fail
      refine Calls.mono (HX1.out _) ?_
      rintro en w3 ⟨rfl, rfl⟩
      go_wp2_with fail
      refine Calls.mono (HX2.out _) ?_
      rintro en w3 ⟨rfl, rfl⟩
      go_wp2_with fail
      refine Calls.mono (HY.out _ _ (HS.out.drewN _)) ?_
      rintro en w3 ⟨rfl, q2, rfl⟩
      go_wp2_with fail
      refine Calls.mono (HY1.out _) ?_
      rintro en w3 ⟨rfl, rfl⟩
      go_wp2_with fail
      refine Calls.mono (HY2.out _) ?_
      rintro en w3 ⟨rfl, rfl⟩
      go_wp2_with fail
      refine Calls.mono (HM.out _ _ (HS.out.drewN _)) ?_
      rintro en w3 ⟨rfl, q3, rfl⟩
      go_wp2_with fail
      refine Calls.mono (HR.out _) ?_
      rintro en w3 ⟨rfl, rfl⟩
      go_wp2
      go_ret2
      exact ⟨rfl, below_drewN hb _⟩
      exact rou_u64.out _
      all_goals omega
    · have hB' : dx ≤ dn := Int.not_lt.1 hB
      clear hB
      apply Exists.intro
      apply Exists.intro
      refine ⟨fun w hP hsz => ?_, ?_, ?_, ?_⟩
      have HW : Hid (PTab w TH TL) := hP
      clear hP
      go_enter Tryd.func75, Tryd.ntmps75
      go_wp2_with fail
      refine Calls.mono (HL.out _) ?_
      rintro en w1 ⟨rfl, rfl⟩
      go_wp2_with fail
      refine Calls.mono (HP.out _) ?_
      rintro en w2 ⟨rfl, rfl⟩
      go_wp2_with fail
      refine Calls.mono (prescale_new TH TL _ j e (-L) lp HJ.out HW.out hj1 hsz (by omega) (by omega)) ?_
      rintro en w2 ⟨rfl, hsc, hb⟩
      have HS : Hid (Scal w2 w1.heap.size (TH j) (TL j) (-(e + lp + 3))) := hsc
      clear hsc
      go_wp2_with fail
      refine Calls.mono (HX.out _ _ HS.out) ?_
      rintro en w3 ⟨rfl, q1, rfl⟩
      go_wp2_with fail
      refine Calls.mono (HX1.out _) ?_
      rintro en w3 ⟨rfl, rfl⟩
      go_wp2_with fail
      refine Calls.mono (HX2.out _) ?_
      rintro en w3 ⟨rfl, rfl⟩
      go_wp2_with fail
      refine Calls.mono (HY.out _ _ (HS.out.drewN _)) ?_
      rintro en w3 ⟨rfl, q2, rfl⟩
      go_wp2_with fail
      refine Calls.mono (HY1.out _) ?_
      rintro en w3 ⟨rfl, rfl⟩
      go_wp2_with fail
      refine Calls.mono (HY2.out _) ?_
      rintro en w3 ⟨rfl, rfl⟩
      go_wp2_with fail
      go_ret2
      exact ⟨rfl, below_drewN hb _⟩
      exact ⟨n0, n1⟩
      all_goals omega
  · have hA' : dn ≤ t0 := Int.not_lt.1 hA
    clear hA
    apply Exists.intro
    apply Exists.intro
    refine ⟨fun w hP hsz => ?_, ?_, ?_, ?_⟩
    have HW : Hid (PTab w TH TL) := hP
    clear hP
    go_enter Tryd.func75, Tryd.ntmps75
    go_wp2_with fail
    refine Calls.mono (HL.out _) ?_
    rintro en w1 ⟨rfl, rfl⟩
    go_wp2_with fail
    refine Calls.mono (HP.out _) ?_
    rintro en w2 ⟨rfl, rfl⟩
    go_wp2_with fail
    refine Calls.mono (prescale_new TH TL _ j e (-L) lp HJ.out HW.out hj1 hsz (by omega) (by omega)) ?_
    rintro en w2 ⟨rfl, hsc, hb⟩
    have HS : Hid (Scal w2 w1.heap.size (TH j) (TL j) (-(e + lp + 3))) := hsc
    clear hsc
    go_wp2_with fail
    refine Calls.mono (HX.out _ _ HS.out) ?_
    rintro en w3 ⟨rfl, q1, rfl⟩
    go_wp2_with fail
    refine Calls.mono (HX1.out _) ?_
    rintro en w3 ⟨rfl, rfl⟩
    go_wp2_with fail
    refine Calls.mono (HX2.out _) ?_
    rintro en w3 ⟨rfl, rfl⟩
    go_wp2_with fail
    refine Calls.mono (HY.out _ _ (HS.out.drewN _)) ?_
    rintro en w3 ⟨rfl, q2, rfl⟩
    go_wp2_with fail
    refine Calls.mono (HY1.out _) ?_
    rintro en w3 ⟨rfl, rfl⟩
    go_wp2_with fail
    refine Calls.mono (HY2.out _) ?_
    rintro en w3 ⟨rfl, rfl⟩
    go_wp2_with fail
    go_ret2
    exact ⟨rfl, below_drewN hb _⟩
    exact HT1.out
    all_goals omega
end Go.Proofs.YtnebmbabfghlaaaDoor
