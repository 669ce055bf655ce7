/- Contract of symMerge where both segments have two elements or more, given the contract for shorter ones: the middle lies in the first. -/
import Derived.Test.YtnebmbabfghlaaaDoorSymA
namespace Go.Proofs.YtnebmbabfghlaaaDoor
open Go.RowKit

theorem sym_fin {k : Nat → Int} {s t u v : Nat → Nat} {a st mid en b : Nat} (h : Halves k t a st mid en b) (p0 : Prm s t a b) (p1 : Prm t u a mid) (s1 : Srt k u a mid) (p2 : Prm u v mid b) (s2 : Srt k v mid b) (h1 : a ≤ mid) (h2 : mid ≤ b) (_ : a ≤ b) : Prm s v a b ∧ Srt k v a b := by
  refine ⟨(p0.trans (p1.mono (Nat.le_refl _) h2)).trans (p2.mono h1 (Nat.le_refl _)), halves_done h ?_ ?_ ?_ s2⟩
  · intro i c1 c2
    rw [p2.out i (by omega)]
    exact p1.into i c1 c2
  · intro i c1 c2
    obtain ⟨j, d1, d2, d3⟩ := p2.into i c1 c2
    exact ⟨j, d1, d2, by rw [d3]; exact p1.out j (by omega)⟩
  · exact s1.congr (fun i c1 c2 => p2.out i (by omega))

/-- The contract, for segments of together at most N elements. -/
def SymUpto (N : Nat) : Prop := ∀ (w : World) (base B cap n a m b : Nat) (g s : Nat → Nat), Own w base B cap n g s → n ≤ 100 → a < m → m < b → b ≤ n → b - a ≤ N → Two (key g) s a m b →
    Calls Tryd.prog 57 #[.slice (some ⟨B, 0, none⟩) n cap, .int .i64 a, .int .i64 m, .int .i64 b, cmpV] w fun e w' => e = .returned (.tuple #[]) ∧ ∃ t, Own w' base B cap n g t ∧ Prm s t a b ∧ Srt (key g) t a b ∧ Below base w w'

set_option maxHeartbeats 8000000 in
set_option maxRecDepth 20000 in
theorem sym_mid_l (N : Nat) (IH0 : SymUpto N) (w : World) (base B cap n a m b mid : Nat) (g s : Nat → Nat) (h : Own w base B cap n g s) (hn : n ≤ 100) (ham : a + 1 < m) (hmb : m + 1 < b) (hbn : b ≤ n) (hN : b - a ≤ N + 1) (h2 : Two (key g) s a m b) (hmid : mid = (a + b) / 2) (hside : mid < m) :
    Calls Tryd.prog 57 #[.slice (some ⟨B, 0, none⟩) n cap, .int .i64 a, .int .i64 m, .int .i64 b, cmpV] w fun e w' => e = .returned (.tuple #[]) ∧ ∃ t, Own w' base B cap n g t ∧ Prm s t a b ∧ Srt (key g) t a b ∧ Below base w w' := by
  have IH : Hid (SymUpto N) := IH0
  have H : Hid (Own w base B cap n g s) := h
  have H2 : Hid (Two (key g) s a m b) := h2
  have t0 : ((m : Int) - (a : Int) == 1) = false := by simp; omega
  have t1 : ((b : Int) - (m : Int) == 1) = false := by simp; omega
  have em : ((a : Int) + (b : Int)) / 2 = (mid : Int) := by omega
  have HMID : Hid (mid = (a + b) / 2) := hmid
  have hm1 : a ≤ mid := by omega
  have hm2 : mid ≤ b := by omega
  obtain ⟨lo, hlo⟩ : ∃ lo : Nat, lo = mid + m - b := ⟨_, rfl⟩
  obtain ⟨hi, hhi⟩ : ∃ hi : Nat, hi = mid := ⟨_, rfl⟩
  have HLH : Hid (mid < m ∧ lo = mid + m - b ∧ hi = mid ∨ m ≤ mid ∧ lo = a ∧ hi = m) := .inl ⟨hside, hlo, hhi⟩
  have f1 : lo ≤ hi := by omega
  have f2 : mid + m ≤ lo + b := by omega
  have f3 : hi ≤ mid := by omega
  have f4 : hi ≤ m := by omega
  have f5 : a ≤ lo := by omega
  have s1 : (mid : Int) < (m : Int) := by omega
  have elo : (mid : Int) + (m : Int) - (b : Int) = (lo : Int) := by omega
  have HHI : Hid (hi = mid) := hhi
  clear h h2 hmid hlo hhi IH0
  go_enter Tryd.func57, Tryd.ntmps57
  go_wp2
  go_loopg [20, 21, 23] (hi - lo) (fun q x y _ wr => ∃ (st r : Nat), st + q = r ∧ lo ≤ st ∧ r ≤ hi ∧ x = .int .i64 st ∧ y = .int .i64 r ∧ Own wr base B cap n g s ∧ Below base w wr ∧ Aside (st = lo ∨ ¬ key g (s (mid + m - 1 - (st - 1))) < key g (s (st - 1))) ∧ Aside (r = hi ∨ key g (s (mid + m - 1 - r)) < key g (s r)))
  case atStart => exact ⟨lo, hi, by omega, by omega, by omega, rfl, by rw [HHI.out], H.out, Below.refl _ _, .inl rfl, .inl rfl⟩
  case round =>
    obtain ⟨st, r, hq, h1, h2, rfl, rfl, ho, hb, hl, hr⟩ := hrel
    have HO : Hid (Own wr base B cap n g s) := ho
    clear ho H
    cases gk with
    | succ q =>
      have hlt : (st : Int) < (r : Int) := by omega
      obtain ⟨c, hc⟩ : ∃ c : Nat, ((st : Int) + (r : Int)) / 2 = (c : Int) := ⟨(st + r) / 2, by omega⟩
      have hci : st ≤ c := by omega
      have hcj : c < r := by omega
      have HIJ : Hid (st + (q + 1) = r) := hq
      obtain ⟨D, hD⟩ : ∃ D : Nat, D = mid + m - 1 - c := ⟨_, rfl⟩
      have eD : (mid : Int) + (m : Int) - 1 - (c : Int) = (D : Int) := by omega
      have cc := HO.out.cell (i := c) (by omega)
      have ca := HO.out.cell (i := D) (by omega)
      have l1 : (c : Int) < (n : Int) := by omega
      have l2 : (D : Int) < (n : Int) := by omega
      have hcm := cmp_neg (g (s D)) (g (s c))
      by_cases hk : K (g (s D)) < K (g (s c))
      · have hneg : cmpI (g (s D)) (g (s c)) < 0 := hcm.2 hk
        have hneg2 : decide (cmpI (g (s D)) (g (s c)) < 0) = true := by simpa using hneg
        have HL : Hid (c = hi ∨ key g (s (mid + m - 1 - c)) < key g (s c)) := .inr (by rw [← hD]; exact hk)
        clear hcm hk hq hD
        go_wp2
        go_quiet ((go_at_call 15; exact Calls.quiet_of_same (compare_any _ _ _)))
        go_wp2
        go_roundg (c - st)
        case measure => have := HIJ.out; omega
        case rel => exact ⟨st, c, by omega, h1, by omega, rfl, rfl, HO.out, below_drewN hb _, hl, HL.out⟩
      · have hneg : ¬ cmpI (g (s D)) (g (s c)) < 0 := fun x => hk (hcm.1 x)
        have hneg2 : decide (cmpI (g (s D)) (g (s c)) < 0) = false := by simpa using hneg
        have HL : Hid (c + 1 = lo ∨ ¬ key g (s (mid + m - 1 - (c + 1 - 1))) < key g (s (c + 1 - 1))) := .inr (by rw [Nat.add_sub_cancel, ← hD]; exact hk)
        clear hcm hk hq hD
        go_wp2
        go_quiet ((go_at_call 15; exact Calls.quiet_of_same (compare_any _ _ _)))
        go_wp2
        go_roundg (r - (c + 1))
        case measure => have := HIJ.out; omega
        case rel => exact ⟨c + 1, r, by omega, by omega, h2, by go_num, rfl, HO.out, below_drewN hb _, HL.out, hr⟩
    | zero =>
      obtain rfl : st = r := by omega
      obtain ⟨en, hen⟩ : ∃ en : Nat, en = mid + m - st := ⟨_, rfl⟩
      have MM := merge_mid (k := key g) H2.out (by omega) (by omega) HMID.out HLH.out h1 h2 hen hl.out hr.out
      obtain ⟨b1, b2, b3, b4, b5, b6, hH⟩ := MM
      have HH : Hid (Halves (key g) (rot s st m en) a st mid en b) := hH
      have HPR : Hid (Prm s (rot s st m en) a b) := (rot_prm s b2 b3).mono b1 b6
      have en1 : (mid : Int) + (m : Int) - (st : Int) = (en : Int) := by omega
      have hmb1 : a < mid := by have := HMID.out; omega
      have hmb2 : mid < b := by have := HMID.out; omega
      have HE : Hid (en = mid + m - st) := hen
      clear hl hr hH hen
      have hnlt : ¬ (st : Int) < (st : Int) := by omega
      by_cases c1 : st < m
      · have g5 : (st : Int) < (m : Int) := by omega
        by_cases c2 : m < en
        · have g6 : (m : Int) < (en : Int) := by omega
          go_wp2_with fail
          refine (rotate_any wr base B cap n st m en g s HO.out hn (by omega) (by omega) (by omega)).mono ?_
          rintro e w1 ⟨rfl, ho1, hb1'⟩
          have HO1 : Hid (Own w1 base B cap n g (rot s st m en)) := ho1
          have hb1 : Below base w w1 := hb.trans hb1'
          clear ho1 hb1' HO hb
          by_cases c3 : a < st
          · have g3 : (a : Int) < (st : Int) := by omega
            by_cases c4 : st < mid
            · have g4 : (st : Int) < (mid : Int) := by omega
              go_wp2_with fail
              refine Calls.mono (Hid.out IH w1 base B cap n a st mid g (rot s st m en) HO1.out hn (by omega) (by omega) (by omega) (by omega) HH.out.l) ?_
              rintro e w2 ⟨rfl, u, ho2, hp2, hs2, hb2'⟩
              have HO2 : Hid (Own w2 base B cap n g u) := ho2
              have HP2 : Hid (Prm (rot s st m en) u a mid) := hp2
              have hb2 : Below base w w2 := hb1.trans hb2'
              clear ho2 hp2 hb2' HO1 hb1
              by_cases c5 : mid < en
              · have g1 : (mid : Int) < (en : Int) := by omega
                by_cases c6 : en < b
                · have g2 : (en : Int) < (b : Int) := by omega
                  go_wp2_with fail
                  refine Calls.mono (Hid.out IH w2 base B cap n mid en b g u HO2.out hn (by omega) (by omega) hbn (by omega) ?_) ?_
                  · have hh := HH.out.r
                    exact ⟨hh.l.congr (fun x hx hy => HP2.out.out x (by omega)), hh.r.congr (fun x hx hy => HP2.out.out x (by omega)), fun i j c1 c2 c3 c4 => by rw [HP2.out.out i (by omega), HP2.out.out j (by omega)]; exact hh.x i j c1 c2 c3 c4⟩
                  rintro e w3 ⟨rfl, v, ho3, hp3, hs3, hb3⟩
                  have FIN : Hid (Prm s v a b ∧ Srt (key g) v a b) := sym_fin HH.out HPR.out HP2.out hs2 hp3 hs3 (by omega) (by omega) (by omega)
                  have HO3 : Hid (Own w3 base B cap n g v) := ho3
                  clear ho3 hp3 hs3 hs2
                  go_wp2
                  go_end0
                  exact ⟨rfl, v, HO3.out, FIN.out.1, FIN.out.2, hb2.trans hb3⟩
                · have hs3 : Srt (key g) u mid b := by
                    have hh := HH.out.r
                    have e1 : ∀ x, mid ≤ x → x < b → u x = rot s st m en x := fun x hx hy => HP2.out.out x (by omega)
                    rcases Nat.lt_or_ge mid en with c | c
                    · have : en = b := by omega
                      rw [this] at hh e1; exact hh.l.congr e1
                    · have : en = mid := by omega
                      rw [this] at hh e1; exact hh.r.congr e1
                  have FIN : Hid (Prm s u a b ∧ Srt (key g) u a b) := sym_fin HH.out HPR.out HP2.out hs2 (Prm.refl _ _ _) hs3 (by omega) (by omega) (by omega)
                  clear hs3 hs2
                  have g2 : ¬ (en : Int) < (b : Int) := by omega
                  go_wp2
                  go_end0
                  exact ⟨rfl, u, HO2.out, FIN.out.1, FIN.out.2, hb2⟩
              · have hs3 : Srt (key g) u mid b := by
                  have hh := HH.out.r
                  have e1 : ∀ x, mid ≤ x → x < b → u x = rot s st m en x := fun x hx hy => HP2.out.out x (by omega)
                  rcases Nat.lt_or_ge mid en with c | c
                  · have : en = b := by omega
                    rw [this] at hh e1; exact hh.l.congr e1
                  · have : en = mid := by omega
                    rw [this] at hh e1; exact hh.r.congr e1
                have FIN : Hid (Prm s u a b ∧ Srt (key g) u a b) := sym_fin HH.out HPR.out HP2.out hs2 (Prm.refl _ _ _) hs3 (by omega) (by omega) (by omega)
                clear hs3 hs2
                have g1 : ¬ (mid : Int) < (en : Int) := by omega
                go_wp2
                go_end0
                exact ⟨rfl, u, HO2.out, FIN.out.1, FIN.out.2, hb2⟩
            · have hs2 : Srt (key g) (rot s st m en) a mid := by
                have hh := HH.out.l
                rcases Nat.lt_or_ge a st with c | c
                · have : st = mid := by omega
                  rw [← this]; exact this ▸ hh.l
                · have : a = st := by omega
                  rw [this]; exact this ▸ hh.r
              obtain ⟨u, hu⟩ : ∃ u, u = rot s st m en := ⟨_, rfl⟩
              have hs2 : Srt (key g) u a mid := by rw [hu]; exact hs2
              have HO2 : Hid (Own w1 base B cap n g u) := by have := HO1.out; rw [← hu] at this; exact this
              have HP2 : Hid (Prm (rot s st m en) u a mid) := by rw [hu]; exact Prm.refl _ _ _
              obtain ⟨w2, hw2⟩ : ∃ w2, w1 = w2 := ⟨_, rfl⟩
              subst hw2
              have hb2 : Below base w w1 := hb1
              clear HO1 hb1 hu
              have g4 : ¬ (st : Int) < (mid : Int) := by omega
              by_cases c5 : mid < en
              · have g1 : (mid : Int) < (en : Int) := by omega
                by_cases c6 : en < b
                · have g2 : (en : Int) < (b : Int) := by omega
                  go_wp2_with fail
                  refine Calls.mono (Hid.out IH w1 base B cap n mid en b g u HO2.out hn (by omega) (by omega) hbn (by omega) ?_) ?_
                  · have hh := HH.out.r
                    exact ⟨hh.l.congr (fun x hx hy => HP2.out.out x (by omega)), hh.r.congr (fun x hx hy => HP2.out.out x (by omega)), fun i j c1 c2 c3 c4 => by rw [HP2.out.out i (by omega), HP2.out.out j (by omega)]; exact hh.x i j c1 c2 c3 c4⟩
                  rintro e w3 ⟨rfl, v, ho3, hp3, hs3, hb3⟩
                  have FIN : Hid (Prm s v a b ∧ Srt (key g) v a b) := sym_fin HH.out HPR.out HP2.out hs2 hp3 hs3 (by omega) (by omega) (by omega)
                  have HO3 : Hid (Own w3 base B cap n g v) := ho3
                  clear ho3 hp3 hs3 hs2
                  go_wp2
                  go_end0
                  exact ⟨rfl, v, HO3.out, FIN.out.1, FIN.out.2, hb2.trans hb3⟩
                · have hs3 : Srt (key g) u mid b := by
                    have hh := HH.out.r
                    have e1 : ∀ x, mid ≤ x → x < b → u x = rot s st m en x := fun x hx hy => HP2.out.out x (by omega)
                    rcases Nat.lt_or_ge mid en with c | c
                    · have : en = b := by omega
                      rw [this] at hh e1; exact hh.l.congr e1
                    · have : en = mid := by omega
                      rw [this] at hh e1; exact hh.r.congr e1
                  have FIN : Hid (Prm s u a b ∧ Srt (key g) u a b) := sym_fin HH.out HPR.out HP2.out hs2 (Prm.refl _ _ _) hs3 (by omega) (by omega) (by omega)
                  clear hs3 hs2
                  have g2 : ¬ (en : Int) < (b : Int) := by omega
                  go_wp2
                  go_end0
                  exact ⟨rfl, u, HO2.out, FIN.out.1, FIN.out.2, hb2⟩
              · have hs3 : Srt (key g) u mid b := by
                  have hh := HH.out.r
                  have e1 : ∀ x, mid ≤ x → x < b → u x = rot s st m en x := fun x hx hy => HP2.out.out x (by omega)
                  rcases Nat.lt_or_ge mid en with c | c
                  · have : en = b := by omega
                    rw [this] at hh e1; exact hh.l.congr e1
                  · have : en = mid := by omega
                    rw [this] at hh e1; exact hh.r.congr e1
                have FIN : Hid (Prm s u a b ∧ Srt (key g) u a b) := sym_fin HH.out HPR.out HP2.out hs2 (Prm.refl _ _ _) hs3 (by omega) (by omega) (by omega)
                clear hs3 hs2
                have g1 : ¬ (mid : Int) < (en : Int) := by omega
                go_wp2
                go_end0
                exact ⟨rfl, u, HO2.out, FIN.out.1, FIN.out.2, hb2⟩
          · have hs2 : Srt (key g) (rot s st m en) a mid := by
              have hh := HH.out.l
              rcases Nat.lt_or_ge a st with c | c
              · have : st = mid := by omega
                rw [← this]; exact this ▸ hh.l
              · have : a = st := by omega
                rw [this]; exact this ▸ hh.r
            obtain ⟨u, hu⟩ : ∃ u, u = rot s st m en := ⟨_, rfl⟩
            have hs2 : Srt (key g) u a mid := by rw [hu]; exact hs2
            have HO2 : Hid (Own w1 base B cap n g u) := by have := HO1.out; rw [← hu] at this; exact this
            have HP2 : Hid (Prm (rot s st m en) u a mid) := by rw [hu]; exact Prm.refl _ _ _
            obtain ⟨w2, hw2⟩ : ∃ w2, w1 = w2 := ⟨_, rfl⟩
            subst hw2
            have hb2 : Below base w w1 := hb1
            clear HO1 hb1 hu
            have g3 : ¬ (a : Int) < (st : Int) := by omega
            by_cases c5 : mid < en
            · have g1 : (mid : Int) < (en : Int) := by omega
              by_cases c6 : en < b
              · have g2 : (en : Int) < (b : Int) := by omega
                go_wp2_with fail
                refine Calls.mono (Hid.out IH w1 base B cap n mid en b g u HO2.out hn (by omega) (by omega) hbn (by omega) ?_) ?_
                · have hh := HH.out.r
                  exact ⟨hh.l.congr (fun x hx hy => HP2.out.out x (by omega)), hh.r.congr (fun x hx hy => HP2.out.out x (by omega)), fun i j c1 c2 c3 c4 => by rw [HP2.out.out i (by omega), HP2.out.out j (by omega)]; exact hh.x i j c1 c2 c3 c4⟩
                rintro e w3 ⟨rfl, v, ho3, hp3, hs3, hb3⟩
                have FIN : Hid (Prm s v a b ∧ Srt (key g) v a b) := sym_fin HH.out HPR.out HP2.out hs2 hp3 hs3 (by omega) (by omega) (by omega)
                have HO3 : Hid (Own w3 base B cap n g v) := ho3
                clear ho3 hp3 hs3 hs2
                go_wp2
                go_end0
                exact ⟨rfl, v, HO3.out, FIN.out.1, FIN.out.2, hb2.trans hb3⟩
              · have hs3 : Srt (key g) u mid b := by
                  have hh := HH.out.r
                  have e1 : ∀ x, mid ≤ x → x < b → u x = rot s st m en x := fun x hx hy => HP2.out.out x (by omega)
                  rcases Nat.lt_or_ge mid en with c | c
                  · have : en = b := by omega
                    rw [this] at hh e1; exact hh.l.congr e1
                  · have : en = mid := by omega
                    rw [this] at hh e1; exact hh.r.congr e1
                have FIN : Hid (Prm s u a b ∧ Srt (key g) u a b) := sym_fin HH.out HPR.out HP2.out hs2 (Prm.refl _ _ _) hs3 (by omega) (by omega) (by omega)
                clear hs3 hs2
                have g2 : ¬ (en : Int) < (b : Int) := by omega
                go_wp2
                go_end0
                exact ⟨rfl, u, HO2.out, FIN.out.1, FIN.out.2, hb2⟩
            · have hs3 : Srt (key g) u mid b := by
                have hh := HH.out.r
                have e1 : ∀ x, mid ≤ x → x < b → u x = rot s st m en x := fun x hx hy => HP2.out.out x (by omega)
                rcases Nat.lt_or_ge mid en with c | c
                · have : en = b := by omega
                  rw [this] at hh e1; exact hh.l.congr e1
                · have : en = mid := by omega
                  rw [this] at hh e1; exact hh.r.congr e1
              have FIN : Hid (Prm s u a b ∧ Srt (key g) u a b) := sym_fin HH.out HPR.out HP2.out hs2 (Prm.refl _ _ _) hs3 (by omega) (by omega) (by omega)
              clear hs3 hs2
              have g1 : ¬ (mid : Int) < (en : Int) := by omega
              go_wp2
              go_end0
              exact ⟨rfl, u, HO2.out, FIN.out.1, FIN.out.2, hb2⟩
        · have e1 : rot s st m en = s := by
            rcases Nat.lt_or_ge st m with c | c
            · have : en = m := by omega
              rw [this]; exact rot_none_r s st m
            · have : st = m := by omega
              rw [this]; exact rot_none_l s m en (by omega)
          obtain ⟨w1, hw1⟩ : ∃ w1, wr = w1 := ⟨_, rfl⟩
          subst hw1
          have HO1 : Hid (Own wr base B cap n g (rot s st m en)) := by rw [e1]; exact HO.out
          have hb1 : Below base w wr := hb
          clear HO hb e1
          have g6 : ¬ (m : Int) < (en : Int) := by omega
          by_cases c3 : a < st
          · have g3 : (a : Int) < (st : Int) := by omega
            by_cases c4 : st < mid
            · have g4 : (st : Int) < (mid : Int) := by omega
              go_wp2_with fail
              refine Calls.mono (Hid.out IH wr base B cap n a st mid g (rot s st m en) HO1.out hn (by omega) (by omega) (by omega) (by omega) HH.out.l) ?_
              rintro e w2 ⟨rfl, u, ho2, hp2, hs2, hb2'⟩
              have HO2 : Hid (Own w2 base B cap n g u) := ho2
              have HP2 : Hid (Prm (rot s st m en) u a mid) := hp2
              have hb2 : Below base w w2 := hb1.trans hb2'
              clear ho2 hp2 hb2' HO1 hb1
              by_cases c5 : mid < en
              · have g1 : (mid : Int) < (en : Int) := by omega
                by_cases c6 : en < b
                · have g2 : (en : Int) < (b : Int) := by omega
                  go_wp2_with fail
                  refine Calls.mono (Hid.out IH w2 base B cap n mid en b g u HO2.out hn (by omega) (by omega) hbn (by omega) ?_) ?_
                  · have hh := HH.out.r
                    exact ⟨hh.l.congr (fun x hx hy => HP2.out.out x (by omega)), hh.r.congr (fun x hx hy => HP2.out.out x (by omega)), fun i j c1 c2 c3 c4 => by rw [HP2.out.out i (by omega), HP2.out.out j (by omega)]; exact hh.x i j c1 c2 c3 c4⟩
                  rintro e w3 ⟨rfl, v, ho3, hp3, hs3, hb3⟩
                  have FIN : Hid (Prm s v a b ∧ Srt (key g) v a b) := sym_fin HH.out HPR.out HP2.out hs2 hp3 hs3 (by omega) (by omega) (by omega)
                  have HO3 : Hid (Own w3 base B cap n g v) := ho3
                  clear ho3 hp3 hs3 hs2
                  go_wp2
                  go_end0
                  exact ⟨rfl, v, HO3.out, FIN.out.1, FIN.out.2, hb2.trans hb3⟩
                · have hs3 : Srt (key g) u mid b := by
                    have hh := HH.out.r
                    have e1 : ∀ x, mid ≤ x → x < b → u x = rot s st m en x := fun x hx hy => HP2.out.out x (by omega)
                    rcases Nat.lt_or_ge mid en with c | c
                    · have : en = b := by omega
                      rw [this] at hh e1; exact hh.l.congr e1
                    · have : en = mid := by omega
                      rw [this] at hh e1; exact hh.r.congr e1
                  have FIN : Hid (Prm s u a b ∧ Srt (key g) u a b) := sym_fin HH.out HPR.out HP2.out hs2 (Prm.refl _ _ _) hs3 (by omega) (by omega) (by omega)
                  clear hs3 hs2
                  have g2 : ¬ (en : Int) < (b : Int) := by omega
                  go_wp2
                  go_end0
                  exact ⟨rfl, u, HO2.out, FIN.out.1, FIN.out.2, hb2⟩
              · have hs3 : Srt (key g) u mid b := by
                  have hh := HH.out.r
                  have e1 : ∀ x, mid ≤ x → x < b → u x = rot s st m en x := fun x hx hy => HP2.out.out x (by omega)
                  rcases Nat.lt_or_ge mid en with c | c
                  · have : en = b := by omega
                    rw [this] at hh e1; exact hh.l.congr e1
                  · have : en = mid := by omega
                    rw [this] at hh e1; exact hh.r.congr e1
                have FIN : Hid (Prm s u a b ∧ Srt (key g) u a b) := sym_fin HH.out HPR.out HP2.out hs2 (Prm.refl _ _ _) hs3 (by omega) (by omega) (by omega)
                clear hs3 hs2
                have g1 : ¬ (mid : Int) < (en : Int) := by omega
                go_wp2
                go_end0
                exact ⟨rfl, u, HO2.out, FIN.out.1, FIN.out.2, hb2⟩
            · have hs2 : Srt (key g) (rot s st m en) a mid := by
                have hh := HH.out.l
                rcases Nat.lt_or_ge a st with c | c
                · have : st = mid := by omega
                  rw [← this]; exact this ▸ hh.l
                · have : a = st := by omega
                  rw [this]; exact this ▸ hh.r
              obtain ⟨u, hu⟩ : ∃ u, u = rot s st m en := ⟨_, rfl⟩
              have hs2 : Srt (key g) u a mid := by rw [hu]; exact hs2
              have HO2 : Hid (Own wr base B cap n g u) := by have := HO1.out; rw [← hu] at this; exact this
              have HP2 : Hid (Prm (rot s st m en) u a mid) := by rw [hu]; exact Prm.refl _ _ _
              obtain ⟨w2, hw2⟩ : ∃ w2, wr = w2 := ⟨_, rfl⟩
              subst hw2
              have hb2 : Below base w wr := hb1
              clear HO1 hb1 hu
              have g4 : ¬ (st : Int) < (mid : Int) := by omega
              by_cases c5 : mid < en
              · have g1 : (mid : Int) < (en : Int) := by omega
                by_cases c6 : en < b
                · have g2 : (en : Int) < (b : Int) := by omega
                  go_wp2_with fail
                  refine Calls.mono (Hid.out IH wr base B cap n mid en b g u HO2.out hn (by omega) (by omega) hbn (by omega) ?_) ?_
                  · have hh := HH.out.r
                    exact ⟨hh.l.congr (fun x hx hy => HP2.out.out x (by omega)), hh.r.congr (fun x hx hy => HP2.out.out x (by omega)), fun i j c1 c2 c3 c4 => by rw [HP2.out.out i (by omega), HP2.out.out j (by omega)]; exact hh.x i j c1 c2 c3 c4⟩
                  rintro e w3 ⟨rfl, v, ho3, hp3, hs3, hb3⟩
                  have FIN : Hid (Prm s v a b ∧ Srt (key g) v a b) := sym_fin HH.out HPR.out HP2.out hs2 hp3 hs3 (by omega) (by omega) (by omega)
                  have HO3 : Hid (Own w3 base B cap n g v) := ho3
                  clear ho3 hp3 hs3 hs2
                  go_wp2
                  go_end0
                  exact ⟨rfl, v, HO3.out, FIN.out.1, FIN.out.2, hb2.trans hb3⟩
                · have hs3 : Srt (key g) u mid b := by
                    have hh := HH.out.r
                    have e1 : ∀ x, mid ≤ x → x < b → u x = rot s st m en x := fun x hx hy => HP2.out.out x (by omega)
                    rcases Nat.lt_or_ge mid en with c | c
                    · have : en = b := by omega
                      rw [this] at hh e1; exact hh.l.congr e1
                    · have : en = mid := by omega
                      rw [this] at hh e1; exact hh.r.congr e1
                  have FIN : Hid (Prm s u a b ∧ Srt (key g) u a b) := sym_fin HH.out HPR.out HP2.out hs2 (Prm.refl _ _ _) hs3 (by omega) (by omega) (by omega)
                  clear hs3 hs2
                  have g2 : ¬ (en : Int) < (b : Int) := by omega
                  go_wp2
                  go_end0
                  exact ⟨rfl, u, HO2.out, FIN.out.1, FIN.out.2, hb2⟩
              · have hs3 : Srt (key g) u mid b := by
                  have hh := HH.out.r
                  have e1 : ∀ x, mid ≤ x → x < b → u x = rot s st m en x := fun x hx hy => HP2.out.out x (by omega)
                  rcases Nat.lt_or_ge mid en with c | c
                  · have : en = b := by omega
                    rw [this] at hh e1; exact hh.l.congr e1
                  · have : en = mid := by omega
                    rw [this] at hh e1; exact hh.r.congr e1
                have FIN : Hid (Prm s u a b ∧ Srt (key g) u a b) := sym_fin HH.out HPR.out HP2.out hs2 (Prm.refl _ _ _) hs3 (by omega) (by omega) (by omega)
                clear hs3 hs2
                have g1 : ¬ (mid : Int) < (en : Int) := by omega
                go_wp2
                go_end0
                exact ⟨rfl, u, HO2.out, FIN.out.1, FIN.out.2, hb2⟩
          · have hs2 : Srt (key g) (rot s st m en) a mid := by
              have hh := HH.out.l
              rcases Nat.lt_or_ge a st with c | c
              · have : st = mid := by omega
                rw [← this]; exact this ▸ hh.l
              · have : a = st := by omega
                rw [this]; exact this ▸ hh.r
            obtain ⟨u, hu⟩ : ∃ u, u = rot s st m en := ⟨_, rfl⟩
            have hs2 : Srt (key g) u a mid := by rw [hu]; exact hs2
            have HO2 : Hid (Own wr base B cap n g u) := by have := HO1.out; rw [← hu] at this; exact this
            have HP2 : Hid (Prm (rot s st m en) u a mid) := by rw [hu]; exact Prm.refl _ _ _
            obtain ⟨w2, hw2⟩ : ∃ w2, wr = w2 := ⟨_, rfl⟩
            subst hw2
            have hb2 : Below base w wr := hb1
            clear HO1 hb1 hu
            have g3 : ¬ (a : Int) < (st : Int) := by omega
            by_cases c5 : mid < en
            · have g1 : (mid : Int) < (en : Int) := by omega
              by_cases c6 : en < b
              · have g2 : (en : Int) < (b : Int) := by omega
                go_wp2_with fail
                refine Calls.mono (Hid.out IH wr base B cap n mid en b g u HO2.out hn (by omega) (by omega) hbn (by omega) ?_) ?_
                · have hh := HH.out.r
                  exact ⟨hh.l.congr (fun x hx hy => HP2.out.out x (by omega)), hh.r.congr (fun x hx hy => HP2.out.out x (by omega)), fun i j c1 c2 c3 c4 => by rw [HP2.out.out i (by omega), HP2.out.out j (by omega)]; exact hh.x i j c1 c2 c3 c4⟩
                rintro e w3 ⟨rfl, v, ho3, hp3, hs3, hb3⟩
                have FIN : Hid (Prm s v a b ∧ Srt (key g) v a b) := sym_fin HH.out HPR.out HP2.out hs2 hp3 hs3 (by omega) (by omega) (by omega)
                have HO3 : Hid (Own w3 base B cap n g v) := ho3
                clear ho3 hp3 hs3 hs2
                go_wp2
                go_end0
                exact ⟨rfl, v, HO3.out, FIN.out.1, FIN.out.2, hb2.trans hb3⟩
              · have hs3 : Srt (key g) u mid b := by
                  have hh := HH.out.r
                  have e1 : ∀ x, mid ≤ x → x < b → u x = rot s st m en x := fun x hx hy => HP2.out.out x (by omega)
                  rcases Nat.lt_or_ge mid en with c | c
                  · have : en = b := by omega
                    rw [this] at hh e1; exact hh.l.congr e1
                  · have : en = mid := by omega
                    rw [this] at hh e1; exact hh.r.congr e1
                have FIN : Hid (Prm s u a b ∧ Srt (key g) u a b) := sym_fin HH.out HPR.out HP2.out hs2 (Prm.refl _ _ _) hs3 (by omega) (by omega) (by omega)
                clear hs3 hs2
                have g2 : ¬ (en : Int) < (b : Int) := by omega
                go_wp2
                go_end0
                exact ⟨rfl, u, HO2.out, FIN.out.1, FIN.out.2, hb2⟩
            · have hs3 : Srt (key g) u mid b := by
                have hh := HH.out.r
                have e1 : ∀ x, mid ≤ x → x < b → u x = rot s st m en x := fun x hx hy => HP2.out.out x (by omega)
                rcases Nat.lt_or_ge mid en with c | c
                · have : en = b := by omega
                  rw [this] at hh e1; exact hh.l.congr e1
                · have : en = mid := by omega
                  rw [this] at hh e1; exact hh.r.congr e1
              have FIN : Hid (Prm s u a b ∧ Srt (key g) u a b) := sym_fin HH.out HPR.out HP2.out hs2 (Prm.refl _ _ _) hs3 (by omega) (by omega) (by omega)
              clear hs3 hs2
              have g1 : ¬ (mid : Int) < (en : Int) := by omega
              go_wp2
              go_end0
              exact ⟨rfl, u, HO2.out, FIN.out.1, FIN.out.2, hb2⟩
      · have e1 : rot s st m en = s := by
          rcases Nat.lt_or_ge st m with c | c
          · have : en = m := by omega
            rw [this]; exact rot_none_r s st m
          · have : st = m := by omega
            rw [this]; exact rot_none_l s m en (by omega)
        obtain ⟨w1, hw1⟩ : ∃ w1, wr = w1 := ⟨_, rfl⟩
        subst hw1
        have HO1 : Hid (Own wr base B cap n g (rot s st m en)) := by rw [e1]; exact HO.out
        have hb1 : Below base w wr := hb
        clear HO hb e1
        have g5 : ¬ (st : Int) < (m : Int) := by omega
        by_cases c3 : a < st
        · have g3 : (a : Int) < (st : Int) := by omega
          by_cases c4 : st < mid
          · have g4 : (st : Int) < (mid : Int) := by omega
            go_wp2_with fail
            refine Calls.mono (Hid.out IH wr base B cap n a st mid g (rot s st m en) HO1.out hn (by omega) (by omega) (by omega) (by omega) HH.out.l) ?_
            rintro e w2 ⟨rfl, u, ho2, hp2, hs2, hb2'⟩
            have HO2 : Hid (Own w2 base B cap n g u) := ho2
            have HP2 : Hid (Prm (rot s st m en) u a mid) := hp2
            have hb2 : Below base w w2 := hb1.trans hb2'
            clear ho2 hp2 hb2' HO1 hb1
            by_cases c5 : mid < en
            · have g1 : (mid : Int) < (en : Int) := by omega
              by_cases c6 : en < b
              · have g2 : (en : Int) < (b : Int) := by omega
                go_wp2_with fail
                refine Calls.mono (Hid.out IH w2 base B cap n mid en b g u HO2.out hn (by omega) (by omega) hbn (by omega) ?_) ?_
                · have hh := HH.out.r
                  exact ⟨hh.l.congr (fun x hx hy => HP2.out.out x (by omega)), hh.r.congr (fun x hx hy => HP2.out.out x (by omega)), fun i j c1 c2 c3 c4 => by rw [HP2.out.out i (by omega), HP2.out.out j (by omega)]; exact hh.x i j c1 c2 c3 c4⟩
                rintro e w3 ⟨rfl, v, ho3, hp3, hs3, hb3⟩
                have FIN : Hid (Prm s v a b ∧ Srt (key g) v a b) := sym_fin HH.out HPR.out HP2.out hs2 hp3 hs3 (by omega) (by omega) (by omega)
                have HO3 : Hid (Own w3 base B cap n g v) := ho3
                clear ho3 hp3 hs3 hs2
                go_wp2
                go_end0
                exact ⟨rfl, v, HO3.out, FIN.out.1, FIN.out.2, hb2.trans hb3⟩
              · have hs3 : Srt (key g) u mid b := by
                  have hh := HH.out.r
                  have e1 : ∀ x, mid ≤ x → x < b → u x = rot s st m en x := fun x hx hy => HP2.out.out x (by omega)
                  rcases Nat.lt_or_ge mid en with c | c
                  · have : en = b := by omega
                    rw [this] at hh e1; exact hh.l.congr e1
                  · have : en = mid := by omega
                    rw [this] at hh e1; exact hh.r.congr e1
                have FIN : Hid (Prm s u a b ∧ Srt (key g) u a b) := sym_fin HH.out HPR.out HP2.out hs2 (Prm.refl _ _ _) hs3 (by omega) (by omega) (by omega)
                clear hs3 hs2
                have g2 : ¬ (en : Int) < (b : Int) := by omega
                go_wp2
                go_end0
                exact ⟨rfl, u, HO2.out, FIN.out.1, FIN.out.2, hb2⟩
            · have hs3 : Srt (key g) u mid b := by
                have hh := HH.out.r
                have e1 : ∀ x, mid ≤ x → x < b → u x = rot s st m en x := fun x hx hy => HP2.out.out x (by omega)
                rcases Nat.lt_or_ge mid en with c | c
                · have : en = b := by omega
                  rw [this] at hh e1; exact hh.l.congr e1
                · have : en = mid := by omega
                  rw [this] at hh e1; exact hh.r.congr e1
              have FIN : Hid (Prm s u a b ∧ Srt (key g) u a b) := sym_fin HH.out HPR.out HP2.out hs2 (Prm.refl _ _ _) hs3 (by omega) (by omega) (by omega)
              clear hs3 hs2
              have g1 : ¬ (mid : Int) < (en : Int) := by omega
              go_wp2
              go_end0
              exact ⟨rfl, u, HO2.out, FIN.out.1, FIN.out.2, hb2⟩
          · have hs2 : Srt (key g) (rot s st m en) a mid := by
              have hh := HH.out.l
              rcases Nat.lt_or_ge a st with c | c
              · have : st = mid := by omega
                rw [← this]; exact this ▸ hh.l
              · have : a = st := by omega
                rw [this]; exact this ▸ hh.r
            obtain ⟨u, hu⟩ : ∃ u, u = rot s st m en := ⟨_, rfl⟩
            have hs2 : Srt (key g) u a mid := by rw [hu]; exact hs2
            have HO2 : Hid (Own wr base B cap n g u) := by have := HO1.out; rw [← hu] at this; exact this
            have HP2 : Hid (Prm (rot s st m en) u a mid) := by rw [hu]; exact Prm.refl _ _ _
            obtain ⟨w2, hw2⟩ : ∃ w2, wr = w2 := ⟨_, rfl⟩
            subst hw2
            have hb2 : Below base w wr := hb1
            clear HO1 hb1 hu
            have g4 : ¬ (st : Int) < (mid : Int) := by omega
            by_cases c5 : mid < en
            · have g1 : (mid : Int) < (en : Int) := by omega
              by_cases c6 : en < b
              · have g2 : (en : Int) < (b : Int) := by omega
                go_wp2_with fail
                refine Calls.mono (Hid.out IH wr base B cap n mid en b g u HO2.out hn (by omega) (by omega) hbn (by omega) ?_) ?_
                · have hh := HH.out.r
                  exact ⟨hh.l.congr (fun x hx hy => HP2.out.out x (by omega)), hh.r.congr (fun x hx hy => HP2.out.out x (by omega)), fun i j c1 c2 c3 c4 => by rw [HP2.out.out i (by omega), HP2.out.out j (by omega)]; exact hh.x i j c1 c2 c3 c4⟩
                rintro e w3 ⟨rfl, v, ho3, hp3, hs3, hb3⟩
                have FIN : Hid (Prm s v a b ∧ Srt (key g) v a b) := sym_fin HH.out HPR.out HP2.out hs2 hp3 hs3 (by omega) (by omega) (by omega)
                have HO3 : Hid (Own w3 base B cap n g v) := ho3
                clear ho3 hp3 hs3 hs2
                go_wp2
                go_end0
                exact ⟨rfl, v, HO3.out, FIN.out.1, FIN.out.2, hb2.trans hb3⟩
              · have hs3 : Srt (key g) u mid b := by
                  have hh := HH.out.r
                  have e1 : ∀ x, mid ≤ x → x < b → u x = rot s st m en x := fun x hx hy => HP2.out.out x (by omega)
                  rcases Nat.lt_or_ge mid en with c | c
                  · have : en = b := by omega
                    rw [this] at hh e1; exact hh.l.congr e1
                  · have : en = mid := by omega
                    rw [this] at hh e1; exact hh.r.congr e1
                have FIN : Hid (Prm s u a b ∧ Srt (key g) u a b) := sym_fin HH.out HPR.out HP2.out hs2 (Prm.refl _ _ _) hs3 (by omega) (by omega) (by omega)
                clear hs3 hs2
                have g2 : ¬ (en : Int) < (b : Int) := by omega
                go_wp2
                go_end0
                exact ⟨rfl, u, HO2.out, FIN.out.1, FIN.out.2, hb2⟩
            · have hs3 : Srt (key g) u mid b := by
                have hh := HH.out.r
                have e1 : ∀ x, mid ≤ x → x < b → u x = rot s st m en x := fun x hx hy => HP2.out.out x (by omega)
                rcases Nat.lt_or_ge mid en with c | c
                · have : en = b := by omega
                  rw [this] at hh e1; exact hh.l.congr e1
                · have : en = mid := by omega
                  rw [this] at hh e1; exact hh.r.congr e1
              have FIN : Hid (Prm s u a b ∧ Srt (key g) u a b) := sym_fin HH.out HPR.out HP2.out hs2 (Prm.refl _ _ _) hs3 (by omega) (by omega) (by omega)
              clear hs3 hs2
              have g1 : ¬ (mid : Int) < (en : Int) := by omega
              go_wp2
              go_end0
              exact ⟨rfl, u, HO2.out, FIN.out.1, FIN.out.2, hb2⟩
        · have hs2 : Srt (key g) (rot s st m en) a mid := by
            have hh := HH.out.l
            rcases Nat.lt_or_ge a st with c | c
            · have : st = mid := by omega
              rw [← this]; exact this ▸ hh.l
            · have : a = st := by omega
              rw [this]; exact this ▸ hh.r
          obtain ⟨u, hu⟩ : ∃ u, u = rot s st m en := ⟨_, rfl⟩
          have hs2 : Srt (key g) u a mid := by rw [hu]; exact hs2
          have HO2 : Hid (Own wr base B cap n g u) := by have := HO1.out; rw [← hu] at this; exact this
          have HP2 : Hid (Prm (rot s st m en) u a mid) := by rw [hu]; exact Prm.refl _ _ _
          obtain ⟨w2, hw2⟩ : ∃ w2, wr = w2 := ⟨_, rfl⟩
          subst hw2
          have hb2 : Below base w wr := hb1
          clear HO1 hb1 hu
          have g3 : ¬ (a : Int) < (st : Int) := by omega
          by_cases c5 : mid < en
          · have g1 : (mid : Int) < (en : Int) := by omega
            by_cases c6 : en < b
            · have g2 : (en : Int) < (b : Int) := by omega
              go_wp2_with fail
              refine Calls.mono (Hid.out IH wr base B cap n mid en b g u HO2.out hn (by omega) (by omega) hbn (by omega) ?_) ?_
              · have hh := HH.out.r
                exact ⟨hh.l.congr (fun x hx hy => HP2.out.out x (by omega)), hh.r.congr (fun x hx hy => HP2.out.out x (by omega)), fun i j c1 c2 c3 c4 => by rw [HP2.out.out i (by omega), HP2.out.out j (by omega)]; exact hh.x i j c1 c2 c3 c4⟩
              rintro e w3 ⟨rfl, v, ho3, hp3, hs3, hb3⟩
              have FIN : Hid (Prm s v a b ∧ Srt (key g) v a b) := sym_fin HH.out HPR.out HP2.out hs2 hp3 hs3 (by omega) (by omega) (by omega)
              have HO3 : Hid (Own w3 base B cap n g v) := ho3
              clear ho3 hp3 hs3 hs2
              go_wp2
              go_end0
              exact ⟨rfl, v, HO3.out, FIN.out.1, FIN.out.2, hb2.trans hb3⟩
            · have hs3 : Srt (key g) u mid b := by
                have hh := HH.out.r
                have e1 : ∀ x, mid ≤ x → x < b → u x = rot s st m en x := fun x hx hy => HP2.out.out x (by omega)
                rcases Nat.lt_or_ge mid en with c | c
                · have : en = b := by omega
                  rw [this] at hh e1; exact hh.l.congr e1
                · have : en = mid := by omega
                  rw [this] at hh e1; exact hh.r.congr e1
              have FIN : Hid (Prm s u a b ∧ Srt (key g) u a b) := sym_fin HH.out HPR.out HP2.out hs2 (Prm.refl _ _ _) hs3 (by omega) (by omega) (by omega)
              clear hs3 hs2
              have g2 : ¬ (en : Int) < (b : Int) := by omega
              go_wp2
              go_end0
              exact ⟨rfl, u, HO2.out, FIN.out.1, FIN.out.2, hb2⟩
          · have hs3 : Srt (key g) u mid b := by
              have hh := HH.out.r
              have e1 : ∀ x, mid ≤ x → x < b → u x = rot s st m en x := fun x hx hy => HP2.out.out x (by omega)
              rcases Nat.lt_or_ge mid en with c | c
              · have : en = b := by omega
                rw [this] at hh e1; exact hh.l.congr e1
              · have : en = mid := by omega
                rw [this] at hh e1; exact hh.r.congr e1
            have FIN : Hid (Prm s u a b ∧ Srt (key g) u a b) := sym_fin HH.out HPR.out HP2.out hs2 (Prm.refl _ _ _) hs3 (by omega) (by omega) (by omega)
            clear hs3 hs2
            have g1 : ¬ (mid : Int) < (en : Int) := by omega
            go_wp2
            go_end0
            exact ⟨rfl, u, HO2.out, FIN.out.1, FIN.out.2, hb2⟩

end Go.Proofs.YtnebmbabfghlaaaDoor
