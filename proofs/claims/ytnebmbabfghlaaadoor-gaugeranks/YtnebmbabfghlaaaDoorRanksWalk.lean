/- GaugeRanks' walk: for every list and three float64s it answers true. -/
import Derived.Test.YtnebmbabfghlaaaDoorRankMath
namespace Go.Proofs.YtnebmbabfghlaaaDoor.gaugeRanks
open Go.RowKit

theorem rank_len (a : Option Addr) (cap x : Nat) (xs : List Nat) (n : Nat) (w : World) (h : FAt w a xs) (hn : xs.length = n) :
    Calls Tryd.prog 18 #[.slice a n cap, .float .f64 x] w fun e w' => e = .returned (.int .i64 (rankN xs x : Nat)) ∧ w' = w := by
  subst hn; exact rank_any a cap x xs w h

set_option maxHeartbeats 8000000 in
theorem walk (a0 : Option Addr) (cap0 : Nat) (xs0 : List Nat) (x0 x1 x2 : Nat) (w : World) (h0 : FIn w a0 cap0 xs0) (_ : x0 < 18446744073709551616) (_ : x1 < 18446744073709551616) (_ : x2 < 18446744073709551616) :
    Calls Tryd.prog 8 #[.slice a0 xs0.length cap0, .agg #[.float .f64 x0, .float .f64 x1, .float .f64 x2]] w fun e w' => e = .returned (.bool true) ∧ Below w.heap.size w w' := by
  obtain ⟨xs, hxc, G0, E0⟩ := early_cut a0 cap0 xs0 w h0
  have HN0 : Hid (a0 = none → xs = [] ∧ cap0 = 0) := fun e => by
    have h := h0.2.2.1 e
    refine ⟨?_, h.2⟩
    have hxc' := hxc
    rw [h.2] at hxc'
    exact List.eq_nil_of_length_eq_zero (by omega)
  clear h0
  go_enter Tryd.func8, Tryd.ntmps8
  go_wp2_with fail
  generalize hW : w.alloc _ = W
  have hsz : W.heap.size = w.heap.size + 1 := by rw [← hW]; simp
  have hbW : Below w.heap.size w W := by rw [← hW]; exact (Below.refl _ _).alloc (Nat.le_refl _) _
  have C0 : Hid (W.cell? ⟨w.heap.size, 0, none⟩ = some (.float .f64 x0)) := by subst hW; show _ = _; go_simp
  have C1 : Hid (W.cell? ⟨w.heap.size, 1, none⟩ = some (.float .f64 x1)) := by subst hW; show _ = _; go_simp
  have C2 : Hid (W.cell? ⟨w.heap.size, 2, none⟩ = some (.float .f64 x2)) := by subst hW; show _ = _; go_simp
  have HSZ : Hid (W.heap.size = w.heap.size + 1) := hsz
  clear hW hsz
  refine (lives_any _).mono ?_
  rintro e w1 ⟨rfl, hb1⟩
  go_wp2_with fail
  refine Calls.mono (Hid.out E0 w1) ?_
  rintro e w' ⟨rfl, rfl⟩
  have F0 : Hid (FAt w' a0 xs) := (G0.out.below hbW (Nat.le_refl _)).below hb1 (Nat.le_refl _)
  clear G0 E0
  go_wp2_with fail
  refine (sort_any a0 cap0 xs w' F0.out HN0.out).mono ?_
  rintro e w2 ⟨a', cap', ys, rfl, hnil, hso⟩
  have hb2 : Below w'.heap.size w' w2 := hso.b
  have B2 : Below (w.heap.size + 1) W w2 := by
    have := hb1.size
    have h3 := HSZ.out
    exact (h3 ▸ hb1).trans (hb2.mono (by omega))
  have D0 : w2.cell? ⟨w.heap.size, 0, none⟩ = some (.float .f64 x0) := (B2.cell (p := ⟨w.heap.size, 0, none⟩) (Nat.lt_succ_self _)).trans C0.out
  have D1 : w2.cell? ⟨w.heap.size, 1, none⟩ = some (.float .f64 x1) := (B2.cell (p := ⟨w.heap.size, 1, none⟩) (Nat.lt_succ_self _)).trans C1.out
  have D2 : w2.cell? ⟨w.heap.size, 2, none⟩ = some (.float .f64 x2) := (B2.cell (p := ⟨w.heap.size, 2, none⟩) (Nat.lt_succ_self _)).trans C2.out
  have BB : Hid (Below w.heap.size w w2) := hbW.trans (B2.mono (by omega))
  have HWW : Hid (w.heap.size < w2.heap.size) := by have := B2.size; have := HSZ.out; show _ < _; omega
  have HUP : Hid (Up ys) := hso.up
  have HF : Hid (FAt w2 a' ys) := hso.at_
  have HLY : Hid (ys.length = xs.length) := hso.len
  have hlx := F0.out.1
  clear hso hb2 hb1 C0 C1 C2 B2 hbW hnil F0 HN0 HSZ
  generalize hn : xs.length = n at *
  clear hn
  go_wp2
  go_loopg [6, 7] n (fun q x _ wr => ∃ (i : Nat), i + q = n ∧ x = .int .i64 i ∧ Below w2.heap.size w2 wr)
  case atStart => exact ⟨0, by omega, rfl, Below.refl _ _⟩
  case round =>
    obtain ⟨i, hq, rfl, hb⟩ := hrel
    cases gk with
    | succ q =>
      have hin : i < n := by omega
      have hini : (i : Int) < (n : Int) := by omega
      go_wp2
      go_loopg [7] i (fun r x wy => ∃ (f : Nat), f = r ∧ f ≤ i ∧ x = .int .i64 f ∧ Below w2.heap.size w2 wy ∧ Aside (K (nth ys f) = K (nth ys i)))
      case atStart => exact ⟨i, rfl, Nat.le_refl _, rfl, hb, rfl⟩
      case round =>
        clear hb
        obtain ⟨f, hfr, hfi, rfl, hb, hkf⟩ := hrel
        obtain ⟨bk, o, rfl, hbk, hc0⟩ := HF.out.at_ (by rw [HLY.out]; omega)
        have hcell : ∀ j, j < n → wr.cell? ⟨bk, o + j, none⟩ = some (.float .f64 (nth ys j)) := fun j hj => (hb.cell (p := ⟨bk, o + j, none⟩) hbk).trans (hc0 j (by rw [HLY.out]; exact hj))
        clear hc0
        cases gk with
        | zero =>
          have HF0 : Hid (f = 0) := hfr
          have hd : decide ((f : Int) > 0) = false := by simp; omega
          have hd2 : ¬ (0 : Int) < (f : Int) := by omega
          have hd3 : decide (0 < f) = false := by simp; omega
          clear hfr
          have hr1 : rankN ys (nth ys i) = f := rank_first ys HUP.out i f (by rw [HLY.out]; exact hin) hfi hkf.out (.inl HF0.out)
          have HR1 : Hid (rankN ys (nth ys i) = f) := hr1
          have ci := hcell i hin
          have hii : (i : Int) < (n : Int) := by omega
          clear hr1 hkf
          by_cases h0 : 0 < i
          · have h0' : (0 : Int) < (i : Int) := by omega
            obtain ⟨I, hI⟩ : ∃ I, I = i - 1 := ⟨_, rfl⟩
            have eI : (i : Int) - 1 = (I : Int) := by omega
            have cI := hcell I (by omega)
            have lI : (I : Int) < (n : Int) := by omega
            have hr2 : rankN ys (nth ys I) ≤ f := by
              rw [← HR1.out]; exact rank_mono ys _ _ (HUP.out I i (by omega) (by rw [HLY.out]; exact hin))
            obtain ⟨r2, hr2e⟩ : ∃ r2, rankN ys (nth ys I) = r2 := ⟨_, rfl⟩
            rw [hr2e] at hr2
            have HR2 : Hid (rankN ys (nth ys I) = r2) := hr2e
            have hng : ¬ (f : Int) < (r2 : Int) := by omega
            have hng2 : decide ((r2 : Int) > (f : Int)) = false := by simp; omega
            clear hI hr2e hcell
            go_wp2
            go_quiet ((go_at_call 15; exact Calls.quiet_of_same (compare_any _ _ _)))
            have BX := below_drewN hb nq
            have HFx := HF.out.below BX (Nat.le_refl _)
            go_wp2_with fail
            refine Calls.mono (rank_len _ cap' _ ys n _ HFx HLY.out) ?_
            rintro e w5 ⟨rfl, rfl⟩
            rw [HR1.out]
            go_wp2_with fail
            refine Calls.mono (rank_len _ cap' _ ys n _ HFx HLY.out) ?_
            rintro e w6 ⟨rfl, rfl⟩
            rw [HR2.out]
            go_wp2
            go_roundg q
            case measure => omega
            case rel => exact ⟨i + 1, by omega, by go_num, BX⟩
          · have h0' : ¬ (0 : Int) < (i : Int) := by omega
            have h0d : decide ((i : Int) > 0) = false := by simp; omega
            have h0e : decide (0 < i) = false := by simp; omega
            clear hcell
            go_wp2
            go_quiet ((go_at_call 15; exact Calls.quiet_of_same (compare_any _ _ _)))
            have BX := below_drewN hb nq
            have HFx := HF.out.below BX (Nat.le_refl _)
            go_wp2_with fail
            refine Calls.mono (rank_len _ cap' _ ys n _ HFx HLY.out) ?_
            rintro e w5 ⟨rfl, rfl⟩
            rw [HR1.out]
            go_wp2
            go_roundg q
            case measure => omega
            case rel => exact ⟨i + 1, by omega, by go_num, BX⟩
        | succ r =>
          obtain ⟨F, hF⟩ : ∃ F, F = f - 1 := ⟨_, rfl⟩
          have eF : (f : Int) - 1 = (F : Int) := by omega
          have cF := hcell F (by omega)
          have lF : (F : Int) < (n : Int) := by omega
          have hf0 : (0 : Int) < (f : Int) := by omega
          have hf1 : 0 < f := by omega
          have hf2 : decide (0 < f) = true := by simp; omega
          have hce := cmp_eq0 (nth ys F) (nth ys i)
          have HFF : Hid (F = f - 1 ∧ f = r + 1) := ⟨hF, hfr⟩
          clear hfr hF
          by_cases hk : K (nth ys F) = K (nth ys i)
          · have hce' : (cmpI (nth ys F) (nth ys i) == 0) = true := by rw [hce]; simp [hk]
            have ci := hcell i hin
            have HK : Hid (K (nth ys F) = K (nth ys i)) := hk
            clear hce hk hcell hkf
            go_wp2
            go_quiet ((go_at_call 15; exact Calls.quiet_of_same (compare_any _ _ _)))
            go_wp2
            go_roundg r
            case measure => omega
            case rel => exact ⟨F, by have := HFF.out; omega, by have := HFF.out; omega, by first | rfl | go_num, below_drewN hb _, HK.out⟩
          · have hce' : (cmpI (nth ys F) (nth ys i) == 0) = false := by rw [hce]; simp [hk]
            have HKN : Hid (K (nth ys (f - 1)) ≠ K (nth ys i)) := by rw [← HFF.out.1]; exact hk
            clear hce hk
            have hr1 : rankN ys (nth ys i) = f := rank_first ys HUP.out i f (by rw [HLY.out]; exact hin) hfi hkf.out (.inr HKN.out)
            have HR1 : Hid (rankN ys (nth ys i) = f) := hr1
            have ci := hcell i hin
            have hii : (i : Int) < (n : Int) := by omega
            clear hr1 hkf
            by_cases h0 : 0 < i
            · have h0' : (0 : Int) < (i : Int) := by omega
              obtain ⟨I, hI⟩ : ∃ I, I = i - 1 := ⟨_, rfl⟩
              have eI : (i : Int) - 1 = (I : Int) := by omega
              have cI := hcell I (by omega)
              have lI : (I : Int) < (n : Int) := by omega
              have hr2 : rankN ys (nth ys I) ≤ f := by
                rw [← HR1.out]; exact rank_mono ys _ _ (HUP.out I i (by omega) (by rw [HLY.out]; exact hin))
              obtain ⟨r2, hr2e⟩ : ∃ r2, rankN ys (nth ys I) = r2 := ⟨_, rfl⟩
              rw [hr2e] at hr2
              have HR2 : Hid (rankN ys (nth ys I) = r2) := hr2e
              have hng : ¬ (f : Int) < (r2 : Int) := by omega
              have hng2 : decide ((r2 : Int) > (f : Int)) = false := by simp; omega
              clear hI hr2e hcell
              go_wp2
              go_quiet ((go_at_call 15; exact Calls.quiet_of_same (compare_any _ _ _)))
              have BX := below_drewN hb nq
              have HFx := HF.out.below BX (Nat.le_refl _)
              go_wp2_with fail
              refine Calls.mono (rank_len _ cap' _ ys n _ HFx HLY.out) ?_
              rintro e w5 ⟨rfl, rfl⟩
              rw [HR1.out]
              go_wp2_with fail
              refine Calls.mono (rank_len _ cap' _ ys n _ HFx HLY.out) ?_
              rintro e w6 ⟨rfl, rfl⟩
              rw [HR2.out]
              go_wp2
              go_roundg q
              case measure => omega
              case rel => exact ⟨i + 1, by omega, by go_num, BX⟩
            · have h0' : ¬ (0 : Int) < (i : Int) := by omega
              have h0d : decide ((i : Int) > 0) = false := by simp; omega
              have h0e : decide (0 < i) = false := by simp; omega
              clear hcell
              go_wp2
              go_quiet ((go_at_call 15; exact Calls.quiet_of_same (compare_any _ _ _)))
              have BX := below_drewN hb nq
              have HFx := HF.out.below BX (Nat.le_refl _)
              go_wp2_with fail
              refine Calls.mono (rank_len _ cap' _ ys n _ HFx HLY.out) ?_
              rintro e w5 ⟨rfl, rfl⟩
              rw [HR1.out]
              go_wp2
              go_roundg q
              case measure => omega
              case rel => exact ⟨i + 1, by omega, by go_num, BX⟩
    | zero =>
      obtain rfl : i = n := by omega
      have D0' : wr.cell? ⟨w.heap.size, 0, none⟩ = some (.float .f64 x0) := (hb.cell (p := ⟨w.heap.size, 0, none⟩) HWW.out).trans D0
      have D1' : wr.cell? ⟨w.heap.size, 1, none⟩ = some (.float .f64 x1) := (hb.cell (p := ⟨w.heap.size, 1, none⟩) HWW.out).trans D1
      have D2' : wr.cell? ⟨w.heap.size, 2, none⟩ = some (.float .f64 x2) := (hb.cell (p := ⟨w.heap.size, 2, none⟩) HWW.out).trans D2
      have BF : Hid (Below w.heap.size w wr) := BB.out.trans (hb.mono (Nat.le_of_lt HWW.out))
      clear D0 D1 D2 hb
      by_cases hlh : K x2 < K x1
      · have g1 : cmpI x1 x2 > 0 := (cmp_gt0 x1 x2).2 hlh
        have g2 : (0 : Int) < cmpI x1 x2 := g1
        have HCL : Hid (clampF x0 x1 x2 = x1) := clamp_wrong x0 x1 x2 hlh
        clear hlh
        go_wp2_with fail
        refine (compare_any _ _ _).mono ?_
        rintro e w5 ⟨rfl, rfl⟩
        go_wp2
        go_quiet (first | (go_at_call 29; exact Calls.quiet_of_same (clamp_any _ _ _ _)) | (go_at_call 17; exact Calls.quiet_of_same (same_any _ _ _)))
        go_wp2
        go_ret
        exact ⟨ret_bool (by rw [HCL.out]; exact same_refl _), below_drewN BF.out _⟩
      · have g2 : ¬ (0 : Int) < cmpI x1 x2 := fun h => hlh ((cmp_gt0 x1 x2).1 h)
        obtain ⟨c, hc⟩ : ∃ c, clampF x0 x1 x2 = c := ⟨_, rfl⟩
        have hci := clamp_in x0 x1 x2 (by omega)
        rw [hc] at hci
        have g3 : (0 : Int) ≤ cmpI c x1 := by
          have := (cmp_neg c x1).1
          by_cases h : cmpI c x1 < 0
          · have := this h; omega
          · omega
        have g4 : cmpI c x2 ≤ (0 : Int) := by
          have := (cmp_gt0 c x2).1
          by_cases h : cmpI c x2 > 0
          · have := this h; omega
          · omega
        have HC : Hid (clampF x0 x1 x2 = c) := hc
        clear hc hlh hci
        go_wp2_with fail
        refine (compare_any _ _ _).mono ?_
        rintro e w5 ⟨rfl, rfl⟩
        go_wp2_with fail
        refine (clamp_any _ _ _ _).mono ?_
        rw [HC.out]
        rintro e w6 ⟨rfl, rfl⟩
        go_wp2_with fail
        refine (compare_any _ _ _).mono ?_
        rintro e w7 ⟨rfl, rfl⟩
        go_wp2_with fail
        refine (compare_any _ _ _).mono ?_
        rintro e w8 ⟨rfl, rfl⟩
        go_wp2
        go_ret
        exact ⟨rfl, BF.out⟩
end Go.Proofs.YtnebmbabfghlaaaDoor.gaugeRanks
