/- Contract of symMerge where the first segment, or the second, is of one element. -/
import Derived.Test.YtnebmbabfghlaaaDoorInsert
namespace Go.Proofs.YtnebmbabfghlaaaDoor
open Go.RowKit
attribute [local go_sem] run_store_float

set_option maxHeartbeats 4000000 in
set_option maxRecDepth 20000 in
theorem sym_first (w : World) (base B cap n a m b : Nat) (g s : Nat → Nat) (h : Own w base B cap n g s) (hn : n ≤ 100) (hm : m = a + 1) (hmb : m < b) (hbn : b ≤ n) (h2 : Two (key g) s a m b) :
    Calls Tryd.prog 57 #[.slice (some ⟨B, 0, none⟩) n cap, .int .i64 a, .int .i64 m, .int .i64 b, cmpV] w fun e w' => e = .returned (.tuple #[]) ∧ ∃ t, Own w' base B cap n g t ∧ Prm s t a b ∧ Srt (key g) t a b ∧ Below base w w' := by
  have H : Hid (Own w base B cap n g s) := h
  have H2 : Hid (Two (key g) s a m b) := h2
  have t0 : ((m : Int) - (a : Int) == 1) = true := by simp; omega
  have ham : a < m := by omega
  have HM : Hid (m = a + 1) := hm
  clear h h2 hm
  go_enter Tryd.func57, Tryd.ntmps57
  go_wp2
  go_loopg [10, 11, 12] (b - m) (fun q x y _ wr => ∃ (i j : Nat), i + q = j ∧ m ≤ i ∧ j ≤ b ∧ x = .int .i64 i ∧ y = .int .i64 j ∧ Own wr base B cap n g s ∧ Below base w wr ∧ Aside (i = m ∨ key g (s (i - 1)) < key g (s a)) ∧ Aside (j = b ∨ ¬ key g (s j) < key g (s a)))
  case atStart => exact ⟨m, b, by omega, by omega, by omega, rfl, rfl, H.out, Below.refl _ _, .inl rfl, .inl rfl⟩
  case round =>
    obtain ⟨i, j, hij, hi, hj, rfl, rfl, ho, hb, hl, hr⟩ := hrel
    have HO : Hid (Own wr base B cap n g s) := ho
    clear ho H
    cases gk with
    | succ q =>
      have hlt : (i : Int) < (j : Int) := by omega
      obtain ⟨c, hc⟩ : ∃ c : Nat, ((i : Int) + (j : Int)) / 2 = (c : Int) := ⟨(i + j) / 2, by omega⟩
      have hci : i ≤ c := by omega
      have hcj : c < j := by omega
      have HIJ : Hid (i + (q + 1) = j) := hij
      have cc := HO.out.cell (i := c) (by omega)
      have ca := HO.out.cell (i := a) (by omega)
      have l1 : (c : Int) < (n : Int) := by omega
      have l2 : (a : Int) < (n : Int) := by omega
      have hcm := cmp_neg (g (s c)) (g (s a))
      clear hij
      by_cases hk : K (g (s c)) < K (g (s a))
      · have hneg : cmpI (g (s c)) (g (s a)) < 0 := hcm.2 hk
        have hneg2 : decide (cmpI (g (s c)) (g (s a)) < 0) = true := by simpa using hneg
        have HL : Hid (c + 1 = m ∨ key g (s (c + 1 - 1)) < key g (s a)) := .inr hk
        clear hcm hk
        go_wp2
        go_quiet ((go_at_call 15; exact Calls.quiet_of_same (compare_any _ _ _)))
        go_wp2
        go_roundg (j - (c + 1))
        case measure => have := HIJ.out; omega
        case rel => exact ⟨c + 1, j, by omega, by omega, hj, by go_num, rfl, HO.out, below_drewN hb _, HL.out, hr⟩
      · have hneg : ¬ cmpI (g (s c)) (g (s a)) < 0 := fun x => hk (hcm.1 x)
        have hneg2 : decide (cmpI (g (s c)) (g (s a)) < 0) = false := by simpa using hneg
        have HL : Hid (c = b ∨ ¬ key g (s c) < key g (s a)) := .inr hk
        clear hcm hk
        go_wp2
        go_quiet ((go_at_call 15; exact Calls.quiet_of_same (compare_any _ _ _)))
        go_wp2
        go_roundg (c - i)
        case measure => have := HIJ.out; omega
        case rel => exact ⟨i, c, by omega, hi, by omega, rfl, rfl, HO.out, below_drewN hb _, hl, HL.out⟩
    | zero =>
      obtain rfl : i = j := by omega
      have HS : Hid (Srt (key g) (rot s a m i) a b) := by
        have h3 := H2.out
        rw [HM.out] at h3 hl hi ⊢
        exact merge_first h3 hi hj hl.out hr.out
      clear hl hr
      go_wp2
      go_loopg [13] (i - 1 - a) (fun q x wy => ∃ (k : Nat), k + q = i - 1 ∧ a ≤ k ∧ x = .int .i64 k ∧ Own wy base B cap n g (rot s a m (k + 1)) ∧ Below base w wy)
      case atStart => exact ⟨a, by omega, by omega, rfl, by have e : rot s a m (a + 1) = s := (by rw [← HM.out]; exact rot_none_r s a m); rw [e]; exact HO.out, hb⟩
      case round =>
        clear HO hb
        obtain ⟨k, hk, hak, rfl, ho, hb⟩ := hrel
        have HO : Hid (Own wr base B cap n g (rot s a m (k + 1))) := ho
        clear ho
        cases gk with
        | zero =>
          have HK : Hid (k + 1 = i) := by show _ = _; omega
          have hge : ¬ (k : Int) < (i : Int) - 1 := by omega
          clear hk
          go_wp2
          refine bodyPost_ret (results_none rfl _ _ _) rfl ?_
          exact ⟨rfl, rot s a m i, by have := HO.out; rw [HK.out] at this; exact this, (rot_prm s (by omega) (by omega)).mono (Nat.le_refl _) hj, HS.out, hb⟩
        | succ q =>
          have hge : (k : Int) < (i : Int) - 1 := by omega
          have HR : Hid (sw (rot s a m (k + 1)) k (k + 1) = rot s a m (k + 2)) := by rw [HM.out]; exact rot_up s a k hak
          have ck := HO.out.cell (i := k) (by omega)
          have ck1 := HO.out.cell (i := k + 1) (by omega)
          have fk := HO.out.frozen k
          have fk1 := HO.out.frozen (k + 1)
          have e1 : (k : Int) + 1 = ((k + 1 : Nat) : Int) := by omega
          have l1 : (k : Int) < (n : Int) := by omega
          have l2 : ((k + 1 : Nat) : Int) < (n : Int) := by omega
          have HK : Hid (k + (q + 1) = i - 1) := hk
          generalize rot s a m (k + 1) = u at *
          obtain ⟨I, hI⟩ : ∃ I, I = k + 1 := ⟨_, rfl⟩
          rw [← hI] at ck1 fk1 e1 l2
          have hne : ¬ I = k := by omega
          have hne2 : ¬ k = I := by omega
          have hIn : I < n := by omega
          have HII : Hid (I = k + 1) := hI
          clear hI hk
          go_wp2
          go_region
          all_goals (try go_wp2)
          go_roundg q
          case measure => omega
          case rel => exact ⟨I, by have := HII.out; have := HK.out; omega, by have := HII.out; omega, by first | rfl | go_num, by have e := HR.out; rw [HII.out, ← e]; exact (HII.out ▸ HO.out.swap k I hIn), ((hb.setCell HO.out.lt.1 _).setCell HO.out.lt.1 _).drew⟩
set_option maxHeartbeats 4000000 in
set_option maxRecDepth 20000 in
theorem sym_last (w : World) (base B cap n a m b : Nat) (g s : Nat → Nat) (h : Own w base B cap n g s) (hn : n ≤ 100) (ham : a + 1 < m) (hm : b = m + 1) (hbn : b ≤ n) (h2 : Two (key g) s a m b) :
    Calls Tryd.prog 57 #[.slice (some ⟨B, 0, none⟩) n cap, .int .i64 a, .int .i64 m, .int .i64 b, cmpV] w fun e w' => e = .returned (.tuple #[]) ∧ ∃ t, Own w' base B cap n g t ∧ Prm s t a b ∧ Srt (key g) t a b ∧ Below base w w' := by
  have H : Hid (Own w base B cap n g s) := h
  have H2 : Hid (Two (key g) s a m b) := h2
  have t0 : ((m : Int) - (a : Int) == 1) = false := by simp; omega
  have t1 : ((b : Int) - (m : Int) == 1) = true := by simp; omega
  have hmb : m < b := by omega
  have HM : Hid (b = m + 1) := hm
  clear h h2 hm
  go_enter Tryd.func57, Tryd.ntmps57
  go_wp2
  go_loopg [14, 15, 16] (m - a) (fun q x y _ wr => ∃ (i j : Nat), i + q = j ∧ a ≤ i ∧ j ≤ m ∧ x = .int .i64 i ∧ y = .int .i64 j ∧ Own wr base B cap n g s ∧ Below base w wr ∧ Aside (i = a ∨ ¬ key g (s m) < key g (s (i - 1))) ∧ Aside (j = m ∨ key g (s m) < key g (s j)))
  case atStart => exact ⟨a, m, by omega, by omega, by omega, rfl, rfl, H.out, Below.refl _ _, .inl rfl, .inl rfl⟩
  case round =>
    obtain ⟨i, j, hij, hi, hj, rfl, rfl, ho, hb, hl, hr⟩ := hrel
    have HO : Hid (Own wr base B cap n g s) := ho
    clear ho H
    cases gk with
    | succ q =>
      have hlt : (i : Int) < (j : Int) := by omega
      obtain ⟨c, hc⟩ : ∃ c : Nat, ((i : Int) + (j : Int)) / 2 = (c : Int) := ⟨(i + j) / 2, by omega⟩
      have hci : i ≤ c := by omega
      have hcj : c < j := by omega
      have HIJ : Hid (i + (q + 1) = j) := hij
      have cc := HO.out.cell (i := c) (by omega)
      have ca := HO.out.cell (i := m) (by omega)
      have l1 : (c : Int) < (n : Int) := by omega
      have l2 : (m : Int) < (n : Int) := by omega
      have hcm := cmp_neg (g (s m)) (g (s c))
      clear hij
      by_cases hk : K (g (s m)) < K (g (s c))
      · have hneg : cmpI (g (s m)) (g (s c)) < 0 := hcm.2 hk
        have hneg2 : decide (cmpI (g (s m)) (g (s c)) < 0) = true := by simpa using hneg
        have HL : Hid (c = m ∨ key g (s m) < key g (s c)) := .inr hk
        clear hcm hk
        go_wp2
        go_quiet ((go_at_call 15; exact Calls.quiet_of_same (compare_any _ _ _)))
        go_wp2
        go_roundg (c - i)
        case measure => have := HIJ.out; omega
        case rel => exact ⟨i, c, by omega, hi, by omega, rfl, rfl, HO.out, below_drewN hb _, hl, HL.out⟩
      · have hneg : ¬ cmpI (g (s m)) (g (s c)) < 0 := fun x => hk (hcm.1 x)
        have hneg2 : decide (cmpI (g (s m)) (g (s c)) < 0) = false := by simpa using hneg
        have HL : Hid (c + 1 = a ∨ ¬ key g (s m) < key g (s (c + 1 - 1))) := .inr hk
        clear hcm hk
        go_wp2
        go_quiet ((go_at_call 15; exact Calls.quiet_of_same (compare_any _ _ _)))
        go_wp2
        go_roundg (j - (c + 1))
        case measure => have := HIJ.out; omega
        case rel => exact ⟨c + 1, j, by omega, by omega, hj, by go_num, rfl, HO.out, below_drewN hb _, HL.out, hr⟩
    | zero =>
      obtain rfl : i = j := by omega
      have HS : Hid (Srt (key g) (rot s i m b) a b) := by
        have h3 := H2.out
        rw [HM.out] at h3 ⊢
        exact merge_last h3 hi hj hl.out hr.out
      clear hl hr
      go_wp2
      go_loopg [17] (m - i) (fun q x wy => ∃ (k : Nat), k = i + q ∧ k ≤ m ∧ x = .int .i64 k ∧ Own wy base B cap n g (rot s k m b) ∧ Below base w wy)
      case atStart => exact ⟨m, by omega, by omega, rfl, by rw [rot_none_l s m b (by omega)]; exact HO.out, hb⟩
      case round =>
        clear HO hb
        obtain ⟨k, hk, hak, rfl, ho, hb⟩ := hrel
        have HO : Hid (Own wr base B cap n g (rot s k m b)) := ho
        clear ho
        cases gk with
        | zero =>
          have HK : Hid (k = i) := by show _ = _; omega
          have hge : ¬ (i : Int) < (k : Int) := by omega
          clear hk
          go_wp2
          refine bodyPost_ret (results_none rfl _ _ _) rfl ?_
          exact ⟨rfl, rot s i m b, by have := HO.out; rw [HK.out] at this; exact this, (rot_prm s (by omega) (by omega)).mono hi (Nat.le_refl _), HS.out, hb⟩
        | succ q =>
          have hge : (i : Int) < (k : Int) := by omega
          obtain ⟨I, hI⟩ : ∃ I, I = k - 1 := ⟨_, rfl⟩
          have HR : Hid (sw (rot s k m b) k I = rot s I m b) := by
            have := rot_down s I m (by omega)
            have e : I + 1 = k := by omega
            rw [e] at this; rw [HM.out]; exact this
          have ck := HO.out.cell (i := k) (by omega)
          have ck1 := HO.out.cell (i := I) (by omega)
          have fk := HO.out.frozen k
          have fk1 := HO.out.frozen I
          have e1 : (k : Int) - 1 = (I : Int) := by omega
          have l1 : (k : Int) < (n : Int) := by omega
          have l2 : (I : Int) < (n : Int) := by omega
          have HK : Hid (k = i + (q + 1)) := hk
          generalize rot s k m b = u at *
          have hne : ¬ I = k := by omega
          have hne2 : ¬ k = I := by omega
          have hIn : I < n := by omega
          have HII : Hid (I = k - 1) := hI
          clear hI hk
          go_wp2
          go_region
          all_goals (try go_wp2)
          go_roundg q
          case measure => omega
          case rel => exact ⟨I, by have := HII.out; have := HK.out; omega, by have := HII.out; omega, by first | rfl | go_num, by rw [← HR.out]; exact HO.out.swap k I hIn, ((hb.setCell HO.out.lt.1 _).setCell HO.out.lt.1 _).drew⟩
end Go.Proofs.YtnebmbabfghlaaaDoor
