/- GaugeSorted's walk: for every list it answers true. -/
import Derived.Test.YtnebmbabfghlaaaDoorSortedMath
namespace Go.Proofs.YtnebmbabfghlaaaDoor.gaugeSorted
open Go.RowKit
attribute [local go_sem] run_f64bits run_f64from run_f64bits'

theorem bitsSame_yes (a b : Option Addr) (c1 c2 : Nat) (xs : List Nat) (n : Nat) (w : World) (hn : xs.length = n) (h1 : FAt w a xs) (h2 : FAt w b xs) :
    Calls Tryd.prog 37 #[.slice a n c1, .slice b n c2] w fun e w' => e = .returned (.bool true) ∧ Below w.heap.size w w' := by
  have H1 : Hid (FAt w a xs) := h1
  have H2 : Hid (FAt w b xs) := h2
  have HN : Hid (xs.length = n) := hn
  have hl : n ≤ 100 := by have := h1.1; omega
  clear h1 h2 hn
  go_enter Tryd.func37, Tryd.ntmps37
  go_wp2
  go_loopg [5] n (fun q x wr => ∃ i : Nat, i + q = n ∧ x = .int .i64 i ∧ Below w.heap.size w wr)
  case atStart => exact ⟨0, by omega, rfl, Below.refl _ _⟩
  case round =>
    obtain ⟨i, hq, rfl, hb⟩ := hrel
    cases gk with
    | zero =>
      obtain rfl : i = n := by omega
      go_wp2
      go_ret
      exact ⟨rfl, hb⟩
    | succ q =>
      have hii : (i : Int) < (n : Int) := by omega
      obtain ⟨b1, o1, rfl, hb1, hc1⟩ := H1.out.at_ (by rw [HN.out]; omega)
      obtain ⟨b2, o2, rfl, hb2, hc2⟩ := H2.out.at_ (by rw [HN.out]; omega)
      have x1 : wr.cell? ⟨b1, o1 + i, none⟩ = some (.float .f64 (nth xs i)) := (hb.cell (p := ⟨b1, o1 + i, none⟩) hb1).trans (hc1 i (by rw [HN.out]; omega))
      have x2 : wr.cell? ⟨b2, o2 + i, none⟩ = some (.float .f64 (nth xs i)) := (hb.cell (p := ⟨b2, o2 + i, none⟩) hb2).trans (hc2 i (by rw [HN.out]; omega))
      clear hc1 hc2
      go_wp2
      go_quiet (fail)
      go_wp2
      go_roundg q
      case measure => omega
      case rel => exact ⟨i + 1, by omega, by go_num, below_drewN hb _⟩

theorem least_len (a : Option Addr) (cap n : Nat) (xs : List Nat) (w : World) (h : FAt w a xs) (hn : xs.length = n) (hcap : n ≤ cap) (hc2 : cap ≤ 140737488351232) :
    Calls Tryd.prog 11 #[.slice a n cap] w fun e w' => e = .returned (.tuple #[.float .f64 (leastF xs), .bool (someB xs)]) ∧ w' = w := by subst hn; exact least_any a cap xs w h hcap hc2
theorem greatest_len (a : Option Addr) (cap n : Nat) (xs : List Nat) (w : World) (h : FAt w a xs) (hn : xs.length = n) (hcap : n ≤ cap) (hc2 : cap ≤ 140737488351232) :
    Calls Tryd.prog 13 #[.slice a n cap] w fun e w' => e = .returned (.tuple #[.float .f64 (greatestF xs), .bool (someB xs)]) ∧ w' = w := by subst hn; exact greatest_any a cap xs w h hcap hc2
theorem sort_len (a : Option Addr) (cap n : Nat) (xs : List Nat) (w : World) (h : FAt w a xs) (hn : xs.length = n) (hnil : a = none → n = 0 ∧ cap = 0) :
    Calls Tryd.prog 21 #[.slice a n cap] w fun e w' => ∃ a' cap' ys, e = .returned (.slice a' n cap') ∧ (a' = none → n = 0 ∧ cap' = 0) ∧ SortOf w w' a' n xs ys := by
  subst hn; exact sort_any a cap xs w h (fun e => ⟨List.eq_nil_of_length_eq_zero (hnil e).1, (hnil e).2⟩)

set_option maxRecDepth 20000 in
set_option maxHeartbeats 8000000 in
theorem walk (a0 : Option Addr) (cap0 : Nat) (xs0 : List Nat) (w : World) (h0 : FIn w a0 cap0 xs0) :
    Calls Tryd.prog 7 #[.slice a0 xs0.length cap0] w fun e w' => e = .returned (.bool true) ∧ Below w.heap.size w w' := by
  obtain ⟨xs, hxc, G0, E0⟩ := early_cut a0 cap0 xs0 w h0
  have HN0 : Hid (a0 = none → xs.length = 0 ∧ cap0 = 0) := fun e => by
    have h := h0.2.2.1 e
    rw [h.2] at hxc
    exact ⟨by omega, h.2⟩
  have hcap0 := h0.2.1
  clear h0
  obtain ⟨n, hn⟩ : ∃ n, xs.length = n := ⟨_, rfl⟩
  rw [hn] at E0 HN0 hxc
  have HLX : Hid (xs.length = n) := hn
  have hn100 : n ≤ 100 := by have := G0.out.1; omega
  clear hn
  go_enter Tryd.func7, Tryd.ntmps7
  go_wp2_with fail
  refine (lives_any _).mono ?_
  rintro e w1 ⟨rfl, hb1⟩
  go_wp2_with fail
  refine Calls.mono (Hid.out E0 w1) ?_
  rintro e w' ⟨rfl, rfl⟩
  have F0 : Hid (FAt w' a0 xs) := G0.out.below hb1 (Nat.le_refl _)
  clear G0 E0
  go_wp2_with fail
  refine (sort_len a0 cap0 n xs w' F0.out HLX.out HN0.out).mono ?_
  rintro e w2 ⟨a1, cap1, ys, rfl, hnil1, hso⟩
  have HS : Hid (SortOf w' w2 a1 n xs ys) := hso
  have HNIL : Hid (a1 = none → n = 0 ∧ cap1 = 0) := hnil1
  clear hso hnil1
  go_wp2_with fail
  refine (sort_len a1 cap1 n ys w2 HS.out.at_ HS.out.len HNIL.out).mono ?_
  rintro e w3 ⟨a2, cap2, zs, rfl, _, hso2⟩
  have HZ : Hid (zs = ys) := hso2.again HS.out.len HS.out.up
  have FZ : Hid (FAt w3 a2 ys) := by have := hso2.at_; rw [HZ.out] at this; exact this
  have FY : Hid (FAt w3 a1 ys) := HS.out.at_.below hso2.b (Nat.le_refl _)
  have hb3 : Below w2.heap.size w2 w3 := hso2.b
  clear hso2
  go_wp2_with fail
  refine (bitsSame_yes a2 a1 cap2 cap1 ys n w3 HS.out.len FZ.out FY.out).mono ?_
  rintro e w4 ⟨rfl, hb4⟩
  have hbs := hb1.size
  have hbs2 := HS.out.b.size
  have hbs3 := hb3.size
  have B04 : Hid (Below w.heap.size w w4) := ((hb1.trans (HS.out.b.mono hbs)).trans (hb3.mono (by omega))).trans (hb4.mono (by omega))
  have FX4 : Hid (FAt w4 a0 xs) := ((F0.out.below HS.out.b (Nat.le_refl _)).below hb3 (Nat.le_refl _)).below hb4 (Nat.le_refl _)
  have FY4 : Hid (FAt w4 a1 ys) := FY.out.below hb4 (Nat.le_refl _)
  have HUP : Hid (Up ys) := HS.out.up
  have HP : Hid (List.Perm ys xs) := HS.out.perm HLX.out
  have HLY : Hid (ys.length = n) := HS.out.len
  have HLE : Hid (0 < n → leastF xs = nth ys 0) := HS.out.least HLX.out
  have HGR : Hid (0 < n → K (greatestF xs) = K (nth ys (n - 1))) := HS.out.greatest HLX.out
  clear HS FZ FY F0 hb1 hb3 hb4 hbs hbs2 hbs3 HZ HN0 HNIL
  go_wp2
  go_loopg [4, 5, 6] n (fun q x _ _ wr => ∃ i : Nat, i + q = n ∧ x = .int .i64 i ∧ Below w4.heap.size w4 wr)
  case atStart => exact ⟨0, by omega, rfl, Below.refl _ _⟩
  case round =>
    obtain ⟨i, hq, rfl, hb⟩ := hrel
    cases gk with
    | succ q =>
      have hin : i < n := by omega
      have hii : (i : Int) < (n : Int) := by omega
      obtain ⟨bx, ox, rfl, hbx, hcx0⟩ := FX4.out.at_ (by rw [HLX.out]; omega)
      obtain ⟨by_, oy, rfl, hby, hcy0⟩ := FY4.out.at_ (by rw [HLY.out]; omega)
      have hcx : ∀ wq, Below w4.heap.size w4 wq → ∀ j, j < n → wq.cell? ⟨bx, ox + j, none⟩ = some (.float .f64 (nth xs j)) := fun wq hq j hj => (hq.cell (p := ⟨bx, ox + j, none⟩) hbx).trans (hcx0 j (by rw [HLX.out]; exact hj))
      have hcy : ∀ wq, Below w4.heap.size w4 wq → ∀ j, j < n → wq.cell? ⟨by_, oy + j, none⟩ = some (.float .f64 (nth ys j)) := fun wq hq j hj => (hq.cell (p := ⟨by_, oy + j, none⟩) hby).trans (hcy0 j (by rw [HLY.out]; exact hj))
      have HCX : Hid (∀ wq, Below w4.heap.size w4 wq → ∀ j, j < n → wq.cell? ⟨bx, ox + j, none⟩ = some (.float .f64 (nth xs j))) := hcx
      have HCY : Hid (∀ wq, Below w4.heap.size w4 wq → ∀ j, j < n → wq.cell? ⟨by_, oy + j, none⟩ = some (.float .f64 (nth ys j))) := hcy
      clear hcx hcy hcx0 hcy0
      have ci := HCY.out wr hb i hin
      -- the guard: in order
      by_cases h0 : 0 < i
      · obtain ⟨I, hI⟩ : ∃ I, I = i - 1 := ⟨_, rfl⟩
        have eI : (i : Int) - 1 = (I : Int) := by omega
        have lI : (I : Int) < (n : Int) := by omega
        have cI := HCY.out wr hb I (by omega)
        have h0' : (0 : Int) < (i : Int) := by omega
        have h0d : decide (0 < i) = true := by simpa using h0
        have hle := HUP.out I i (by omega) (by rw [HLY.out]; exact hin)
        have hng : ¬ cmpI (nth ys I) (nth ys i) > 0 := fun h => by have := (cmp_gt0 _ _).1 h; omega
        have hng2 : ¬ (0 : Int) < cmpI (nth ys I) (nth ys i) := hng
        have hng3 : decide ((0 : Int) < cmpI (nth ys I) (nth ys i)) = false := by simpa using hng
        clear hI hle
        go_wp2
        go_quiet ((go_at_call 15; exact Calls.quiet_of_same (compare_any _ _ _)))
        have hb' := below_drewN hb nq
        generalize wr.drewN nq = wz at hb' ⊢
        clear hb ci
        go_wp2
        go_loopg [5, 6] n (fun r x y wy => ∃ k c d : Nat, k + r = n ∧ c ≤ k ∧ d ≤ k ∧ y = .int .i64 k ∧ x = .int .i64 ((c : Int) - (d : Int)) ∧ Below w4.heap.size w4 wy ∧ Aside (cnt (xs.take k) (nth ys i) = c) ∧ Aside (cnt (ys.take k) (nth ys i) = d))
        case atStart => exact ⟨0, 0, 0, by omega, by omega, by omega, rfl, rfl, hb', rfl, rfl⟩
        case round =>
          clear hb'
          obtain ⟨k, c, d, hkr, hck, hdk, rfl, rfl, hb, hc, hd⟩ := hrel
          cases gk with
          | zero =>
            obtain rfl : k = n := by omega
            have hcd : c = d := by
              rw [← hc.out, ← hd.out]
              exact cnt_perm HP.out _ _ (by rw [HLX.out]; omega) (by rw [HLY.out]; omega)
            subst hcd
            have e0 : (c : Int) - (c : Int) = 0 := by omega
            clear hc hd hkr
            go_wp2
            go_roundg q
            case measure => omega
            case rel => exact ⟨i + 1, by omega, by go_num, hb⟩
          | succ r =>
            have hkn : k < n := by omega
            have hkni : (k : Int) < (n : Int) := by omega
            have ci := HCY.out wr hb i hin
            have ck := HCY.out wr hb k hkn
            have cx := HCX.out wr hb k hkn
            have s1 := cnt_step xs (nth ys i) k (by rw [HLX.out]; exact hkn)
            have s2 := cnt_step ys (nth ys i) k (by rw [HLY.out]; exact hkn)
            rw [hc.out] at s1
            rw [hd.out] at s2
            have q1 := beq_cast (nth xs k) (nth ys i)
            have q2 := beq_cast (nth ys k) (nth ys i)
            have HKR : Hid (k + (r + 1) = n) := hkr
            clear hkr hc hd
            cases c1 : (nth xs k == nth ys i) <;> cases c2 : (nth ys k == nth ys i)
            all_goals (
              rw [c1] at s1 q1
              rw [c2] at s2 q2
              simp only [Bool.false_eq_true, if_true, if_false, Nat.add_zero] at s1 s2
              have S1 : Hid _ := s1
              have S2 : Hid _ := s2
              clear s1 s2
              go_wp2
              go_quiet (fail)
              go_wp2
              have hbq := below_drewN hb nq
              have ci' := HCY.out (wr.drewN nq) hbq i hin
              have ck' := HCY.out (wr.drewN nq) hbq k hkn
              generalize wr.drewN nq = wz at hbq ci' ck' ⊢
              go_quiet (fail)
              go_wp2
              go_roundg r
              case measure => omega
              case rel => exact ⟨k + 1, _, _, by have := HKR.out; omega, by omega, by omega, by go_num, by first | rfl | (congr 1; omega) | (congr 1; simp; omega), below_drewN hbq _, S1.out, S2.out⟩)
      · have h0' : ¬ (0 : Int) < (i : Int) := by omega
        have h0d : decide (0 < i) = false := by simpa using h0
        go_wp2
        go_quiet ((go_at_call 15; exact Calls.quiet_of_same (compare_any _ _ _)))
        have hb' := below_drewN hb nq
        generalize wr.drewN nq = wz at hb' ⊢
        clear hb ci
        go_wp2
        go_loopg [5, 6] n (fun r x y wy => ∃ k c d : Nat, k + r = n ∧ c ≤ k ∧ d ≤ k ∧ y = .int .i64 k ∧ x = .int .i64 ((c : Int) - (d : Int)) ∧ Below w4.heap.size w4 wy ∧ Aside (cnt (xs.take k) (nth ys i) = c) ∧ Aside (cnt (ys.take k) (nth ys i) = d))
        case atStart => exact ⟨0, 0, 0, by omega, by omega, by omega, rfl, rfl, hb', rfl, rfl⟩
        case round =>
          clear hb'
          obtain ⟨k, c, d, hkr, hck, hdk, rfl, rfl, hb, hc, hd⟩ := hrel
          cases gk with
          | zero =>
            obtain rfl : k = n := by omega
            have hcd : c = d := by
              rw [← hc.out, ← hd.out]
              exact cnt_perm HP.out _ _ (by rw [HLX.out]; omega) (by rw [HLY.out]; omega)
            subst hcd
            have e0 : (c : Int) - (c : Int) = 0 := by omega
            clear hc hd hkr
            go_wp2
            go_roundg q
            case measure => omega
            case rel => exact ⟨i + 1, by omega, by go_num, hb⟩
          | succ r =>
            have hkn : k < n := by omega
            have hkni : (k : Int) < (n : Int) := by omega
            have ci := HCY.out wr hb i hin
            have ck := HCY.out wr hb k hkn
            have cx := HCX.out wr hb k hkn
            have s1 := cnt_step xs (nth ys i) k (by rw [HLX.out]; exact hkn)
            have s2 := cnt_step ys (nth ys i) k (by rw [HLY.out]; exact hkn)
            rw [hc.out] at s1
            rw [hd.out] at s2
            have q1 := beq_cast (nth xs k) (nth ys i)
            have q2 := beq_cast (nth ys k) (nth ys i)
            have HKR : Hid (k + (r + 1) = n) := hkr
            clear hkr hc hd
            cases c1 : (nth xs k == nth ys i) <;> cases c2 : (nth ys k == nth ys i)
            all_goals (
              rw [c1] at s1 q1
              rw [c2] at s2 q2
              simp only [Bool.false_eq_true, if_true, if_false, Nat.add_zero] at s1 s2
              have S1 : Hid _ := s1
              have S2 : Hid _ := s2
              clear s1 s2
              go_wp2
              go_quiet (fail)
              go_wp2
              have hbq := below_drewN hb nq
              have ci' := HCY.out (wr.drewN nq) hbq i hin
              have ck' := HCY.out (wr.drewN nq) hbq k hkn
              generalize wr.drewN nq = wz at hbq ci' ck' ⊢
              go_quiet (fail)
              go_wp2
              go_roundg r
              case measure => omega
              case rel => exact ⟨k + 1, _, _, by have := HKR.out; omega, by omega, by omega, by go_num, by first | rfl | (congr 1; omega) | (congr 1; simp; omega), below_drewN hbq _, S1.out, S2.out⟩)
    | zero =>
      obtain rfl : i = n := by omega
      have BF : Hid (Below w.heap.size w wr) := B04.out.trans (hb.mono (by have := B04.out.size; omega))
      have FXr : Hid (FAt wr a0 xs) := FX4.out.below hb (Nat.le_refl _)
      by_cases h0 : 0 < i
      · have hso : someB xs = true := by simp [someB, HLX.out, h0]
        obtain ⟨by_, oy, rfl, hby, hcy0⟩ := FY4.out.at_ (by rw [HLY.out]; omega)
        have c0 : wr.cell? ⟨by_, oy, none⟩ = some (.float .f64 (nth ys 0)) := (hb.cell (p := ⟨by_, oy, none⟩) hby).trans (hcy0 0 (by rw [HLY.out]; exact h0))
        obtain ⟨I, hI⟩ : ∃ I, I = i - 1 := ⟨_, rfl⟩
        have eI : (i : Int) - 1 = (I : Int) := by omega
        have lI : (I : Int) < (i : Int) := by omega
        have cI : wr.cell? ⟨by_, oy + I, none⟩ = some (.float .f64 (nth ys I)) := (hb.cell (p := ⟨by_, oy + I, none⟩) hby).trans (hcy0 I (by rw [HLY.out]; omega))
        have l0 : (0 : Int) < (i : Int) := by omega
        have hz : ((i : Int) == 0) = false := by simp; omega
        have HL2 : Hid (leastF xs = nth ys 0) := HLE.out h0
        have hge : (cmpI (greatestF xs) (nth ys I) == 0) = true := by rw [cmp_eq0, hI]; simp [HGR.out h0]
        clear hcy0 hI
        go_wp2_with fail
        refine (least_len a0 cap0 i xs wr FXr.out HLX.out hxc hcap0).mono ?_
        rw [HL2.out, hso]
        rintro e w5 ⟨rfl, rfl⟩
        go_wp2_with fail
        refine (greatest_len a0 cap0 i xs w5 FXr.out HLX.out hxc hcap0).mono ?_
        rw [hso]
        rintro e w6 ⟨rfl, rfl⟩
        go_wp2
        go_quiet ((go_at_call 15; exact Calls.quiet_of_same (compare_any _ _ _)))
        go_wp2
        go_ret
        exact ⟨rfl, below_drewN BF.out _⟩
      · obtain rfl : i = 0 := by omega
        have hso : someB xs = false := by simp [someB, HLX.out]
        go_wp2_with fail
        refine (least_len a0 cap0 0 xs wr FXr.out HLX.out hxc hcap0).mono ?_
        rw [hso]
        rintro e w5 ⟨rfl, rfl⟩
        go_wp2_with fail
        refine (greatest_len a0 cap0 0 xs w5 FXr.out HLX.out hxc hcap0).mono ?_
        rw [hso]
        rintro e w6 ⟨rfl, rfl⟩
        go_wp2
        go_ret
        exact ⟨rfl, BF.out⟩
end Go.Proofs.YtnebmbabfghlaaaDoor.gaugeSorted
