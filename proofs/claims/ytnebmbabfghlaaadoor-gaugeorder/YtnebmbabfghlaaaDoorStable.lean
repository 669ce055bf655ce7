/- Contract of symMerge, and of stable over a row of the call's own. -/
import Derived.Test.YtnebmbabfghlaaaDoorSymC
namespace Go.Proofs.YtnebmbabfghlaaaDoor
open Go.RowKit

theorem sym_upto : ∀ N, SymUpto N
  | 0 => fun w base B cap n a m b g s h hn ham hmb hbn hN h2 => by omega
  | N + 1 => fun w base B cap n a m b g s h hn ham hmb hbn hN h2 => by
    by_cases c1 : m = a + 1
    · exact sym_first w base B cap n a m b g s h hn c1 hmb hbn h2
    · by_cases c2 : b = m + 1
      · exact sym_last w base B cap n a m b g s h hn (by omega) c2 hbn h2
      · by_cases c3 : (a + b) / 2 < m
        · exact sym_mid_l N (sym_upto N) w base B cap n a m b _ g s h hn (by omega) (by omega) hbn hN h2 rfl c3
        · exact sym_mid_r N (sym_upto N) w base B cap n a m b _ g s h hn (by omega) (by omega) hbn hN h2 rfl (by omega)
theorem sym_any (w : World) (base B cap n a m b : Nat) (g s : Nat → Nat) (h : Own w base B cap n g s) (hn : n ≤ 100) (ham : a < m) (hmb : m < b) (hbn : b ≤ n) (h2 : Two (key g) s a m b) :
    Calls Tryd.prog 57 #[.slice (some ⟨B, 0, none⟩) n cap, .int .i64 a, .int .i64 m, .int .i64 b, cmpV] w fun e w' => e = .returned (.tuple #[]) ∧ ∃ t, Own w' base B cap n g t ∧ Prm s t a b ∧ Srt (key g) t a b ∧ Below base w w' :=
  sym_upto (b - a) w base B cap n a m b g s h hn ham hmb hbn (Nat.le_refl _) h2

/-- Blocks of z: sorted below e; each place holds one of its own block. -/
structure Blk (k : Nat → Int) (t : Nat → Nat) (z e n : Nat) : Prop where
  s : ∀ i j, i < j → j < e → i / z = j / z → lt k (t i) (t j)
  o : ∀ i, i < n → t i / z = i / z ∧ t i < n
  c : ∀ j, j < n → ∃ i, i < n ∧ t i = j

theorem Blk.step {k : Nat → Int} {t u : Nat → Nat} {z e b n : Nat} (hz : z = 20 ∨ z = 40 ∨ z = 80 ∨ z = 160) (h : Blk k t z e n) (p : Prm t u e b) (s : Srt k u e b) (he : e % z = 0) (hb : b ≤ e + z) (heb : e ≤ b) (hbn : b ≤ n) : Blk k u z b n := by
  refine ⟨fun i j h1 h2 h3 => ?_, fun i hi => ?_, fun j hj => ?_⟩
  · by_cases c1 : j < e
    · rw [p.out i (by omega), p.out j (by omega)]; exact h.s i j h1 c1 h3
    · have : e ≤ i := by
        rcases hz with rfl | rfl | rfl | rfl <;> omega
      exact s i j this h1 h2
  · by_cases c1 : e ≤ i ∧ i < b
    · obtain ⟨j, c2, c3, c4⟩ := p.into i c1.1 c1.2
      have := h.o j (by omega)
      rw [c4]
      refine ⟨?_, this.2⟩
      rcases hz with rfl | rfl | rfl | rfl <;> omega
    · rw [p.out i (by omega)]; exact h.o i hi
  · obtain ⟨i, c2, c3⟩ := h.c j hj
    by_cases c1 : e ≤ i ∧ i < b
    · obtain ⟨l, c4, c5, c6⟩ := p.onto i c1.1 c1.2
      exact ⟨l, by omega, by rw [c6]; exact c3⟩
    · exact ⟨i, c2, by rw [p.out i (by omega)]; exact c3⟩

/-- Blocks of 2 z below e, of z behind it. -/
structure Blk2 (k : Nat → Int) (t : Nat → Nat) (z e n : Nat) : Prop where
  s1 : ∀ i j, i < j → j < e → i / (2 * z) = j / (2 * z) → lt k (t i) (t j)
  s2 : ∀ i j, e ≤ i → i < j → j < n → i / z = j / z → lt k (t i) (t j)
  o1 : ∀ i, i < e → i < n → t i / (2 * z) = i / (2 * z) ∧ t i < n
  o2 : ∀ i, e ≤ i → i < n → t i / z = i / z ∧ t i < n
  c : ∀ j, j < n → ∃ i, i < n ∧ t i = j
theorem Blk.to2 {k : Nat → Int} {t : Nat → Nat} {z n : Nat} (h : Blk k t z n n) : Blk2 k t z 0 n :=
  ⟨fun i j h1 h2 => by omega, fun i j _ h1 h2 h3 => h.s i j h1 h2 h3, fun i h1 => by omega, fun i _ h1 => h.o i h1, h.c⟩
theorem Blk2.two {k : Nat → Int} {t : Nat → Nat} {z e n b : Nat} (hz : z = 20 ∨ z = 40 ∨ z = 80) (h : Blk2 k t z e n) (he : e % (2 * z) = 0) (hm : e + z ≤ n) (hb : b ≤ e + 2 * z) (hbn : b ≤ n) : Two k t e (e + z) b := by
  refine ⟨fun i j c1 c2 c3 => ?_, fun i j c1 c2 c3 => ?_, fun i j c1 c2 c3 c4 => ?_⟩
  · exact h.s2 i j c1 c2 (by omega) (by rcases hz with rfl | rfl | rfl <;> omega)
  · exact h.s2 i j (by omega) c2 (by omega) (by rcases hz with rfl | rfl | rfl <;> omega)
  · have h1 := h.o2 i c1 (by omega)
    have h2 := h.o2 j (by omega) (by omega)
    rcases hz with rfl | rfl | rfl <;> omega
theorem Blk2.step {k : Nat → Int} {t u : Nat → Nat} {z e b n : Nat} (hz : z = 20 ∨ z = 40 ∨ z = 80) (h : Blk2 k t z e n) (p : Prm t u e b) (s : Srt k u e b) (he : e % (2 * z) = 0) (hb : b ≤ e + 2 * z) (heb : e ≤ b) (hbn : b ≤ n) : Blk2 k u z b n := by
  refine ⟨fun i j h1 h2 h3 => ?_, fun i j h0 h1 h2 h3 => ?_, fun i hi hi2 => ?_, fun i hi hi2 => ?_, fun j hj => ?_⟩
  · by_cases c1 : j < e
    · rw [p.out i (by omega), p.out j (by omega)]; exact h.s1 i j h1 c1 h3
    · have : e ≤ i := by rcases hz with rfl | rfl | rfl <;> omega
      exact s i j this h1 h2
  · rw [p.out i (by omega), p.out j (by omega)]; exact h.s2 i j (by omega) h1 h2 h3
  · by_cases c1 : e ≤ i
    · obtain ⟨j, c2, c3, c4⟩ := p.into i c1 hi
      have := h.o2 j c2 (by omega)
      rw [c4]
      refine ⟨?_, this.2⟩
      rcases hz with rfl | rfl | rfl <;> omega
    · rw [p.out i (by omega)]; exact h.o1 i (by omega) hi2
  · rw [p.out i (by omega)]; exact h.o2 i (by omega) hi2
  · obtain ⟨i, c2, c3⟩ := h.c j hj
    by_cases c1 : e ≤ i ∧ i < b
    · obtain ⟨l, c4, c5, c6⟩ := p.onto i c1.1 c1.2
      exact ⟨l, by omega, by rw [c6]; exact c3⟩
    · exact ⟨i, c2, by rw [p.out i (by omega)]; exact c3⟩
theorem Blk2.to1 {k : Nat → Int} {t : Nat → Nat} {z e n : Nat} (hz : z = 20 ∨ z = 40 ∨ z = 80) (h : Blk2 k t z e n) (he : e % (2 * z) = 0 ∨ e = n) (hn : n ≤ e + z) : Blk k t (2 * z) n n := by
  refine ⟨fun i j h1 h2 h3 => ?_, fun i hi => ?_, h.c⟩
  · by_cases c1 : j < e
    · exact h.s1 i j h1 c1 h3
    · have : e ≤ i := by rcases he with he | he <;> rcases hz with rfl | rfl | rfl <;> omega
      exact h.s2 i j this h1 h2 (by rcases he with he | he <;> rcases hz with rfl | rfl | rfl <;> omega)
  · by_cases c1 : i < e
    · exact h.o1 i c1 hi
    · have := h.o2 i (by omega) hi
      refine ⟨?_, this.2⟩
      rcases hz with rfl | rfl | rfl <;> omega

/-- What sorting a row gives: t tells which place of the first row each place holds. -/
structure Sorted (g t : Nat → Nat) (n : Nat) : Prop where
  s : Srt (key g) t 0 n
  o : ∀ i, i < n → t i < n
  c : ∀ j, j < n → ∃ i, i < n ∧ t i = j

set_option maxHeartbeats 8000000 in
theorem stable_any (w : World) (base B cap n : Nat) (g : Nat → Nat) (h : Own w base B cap n g (fun i => i)) (hn : n ≤ 100) :
    Calls Tryd.prog 54 #[.slice (some ⟨B, 0, none⟩) n cap, .int .i64 n, cmpV] w fun e w' => e = .returned (.tuple #[]) ∧ ∃ t, Own w' base B cap n g t ∧ Sorted g t n ∧ Below base w w' := by
  have H : Hid (Own w base B cap n g (fun i => i)) := h
  clear h
  go_enter Tryd.func54, Tryd.ntmps54
  go_wp2
  go_loopg [7, 8] n (fun q x y wr => ∃ (a : Nat) (t : Nat → Nat), a + q = n ∧ a % 20 = 0 ∧ x = .int .i64 a ∧ y = .int .i64 ((a : Int) + 20) ∧ Own wr base B cap n g t ∧ Below base w wr ∧ Aside (Blk (key g) t 20 a n) ∧ Aside (∀ i, a ≤ i → t i = i))
  case atStart => exact ⟨0, _, by omega, rfl, rfl, rfl, H.out, Below.refl _ _, ⟨fun i j h1 h2 => by omega, fun i hi => ⟨rfl, hi⟩, fun j hj => ⟨j, hj, rfl⟩⟩, fun _ _ => rfl⟩
  case round =>
    obtain ⟨a, t, hq, ha, rfl, rfl, ho, hb, hk, hid⟩ := hrel
    have HO : Hid (Own wr base B cap n g t) := ho
    clear ho H
    have han : a ≤ n := by omega
    have HQ : Hid (a + gk = n) := hq
    clear hq
    by_cases c1 : a + 20 ≤ n
    · obtain ⟨I, hI⟩ : ∃ I, I = a + 20 := ⟨_, rfl⟩
      have c1' : (I : Int) ≤ (n : Int) := by omega
      have e1 : (a : Int) + 20 = (I : Int) := by omega
      have HII : Hid (I = a + 20) := hI
      clear hI
      go_wp2_with fail
      refine (insertion_any wr base B cap n a I g t HO.out hn (by have := HII.out; omega) (by have := HII.out; omega) (fun i j c2 c3 c4 => by rw [hid.out i c2, hid.out j (by omega)]; exact c3)).mono ?_
      rintro e w1 ⟨rfl, u, ho1, hp1, hs1, hb1⟩
      have HO1 : Hid (Own w1 base B cap n g u) := ho1
      have HK1 : Hid (Blk (key g) u 20 I n) := hk.out.step (.inl rfl) hp1 hs1 ha (by have := HII.out; omega) (by have := HII.out; omega) (by have := HII.out; omega)
      have HI1 : Hid (∀ i, I ≤ i → u i = i) := fun i hi => (hp1.out i (by omega)).trans (hid.out i (by have := HII.out; omega))
      clear ho1 hp1 hs1
      go_wp2
      go_roundg (n - I)
      case measure => have := HQ.out; have := HII.out; omega
      case rel => exact ⟨I, u, by have := HII.out; omega, by have := HII.out; omega, by first | rfl | go_num, by first | rfl | go_num, HO1.out, hb.trans hb1, HK1.out, HI1.out⟩
    · have c1' : ¬ ((a : Int) + 20 ≤ (n : Int)) := by omega
      go_wp2_with fail
      refine (insertion_any wr base B cap n a n g t HO.out hn han (Nat.le_refl _) (fun i j c2 c3 c4 => by rw [hid.out i c2, hid.out j (by omega)]; exact c3)).mono ?_
      rintro e w1 ⟨rfl, u, ho1, hp1, hs1, hb1⟩
      have HO1 : Hid (Own w1 base B cap n g u) := ho1
      have HK1 : Hid (Blk (key g) u 20 n n) := hk.out.step (.inl rfl) hp1 hs1 ha (by omega) han (Nat.le_refl _)
      have hb01 : Below base w w1 := hb.trans hb1
      clear ho1 hp1 hs1 HO hb hb1 hk hid
      go_wp2
      go_loopg [6, 7, 8, 9] 3 (fun r x _ _ _ wr => ∃ (z : Nat) (t : Nat → Nat), (z = 20 ∧ r = 3 ∨ z = 40 ∧ r = 2 ∨ z = 80 ∧ r = 1 ∨ z = 160 ∧ r = 0) ∧ x = .int .i64 z ∧ Own wr base B cap n g t ∧ Below base w wr ∧ Aside (Blk (key g) t z n n))
      case atStart => exact ⟨20, u, .inl ⟨rfl, rfl⟩, rfl, HO1.out, hb01, HK1.out⟩
      case round =>
        clear HO1 hb01 HK1
        obtain ⟨z, t, hz, rfl, ho, hb, hk⟩ := hrel
        have HO : Hid (Own wr base B cap n g t) := ho
        clear ho
        by_cases c0 : z < n
        · rcases hz with ⟨rfl, rfl⟩ | ⟨rfl, rfl⟩ | ⟨rfl, rfl⟩ | ⟨rfl, rfl⟩
          · have t6 : (20 : Int) < (n : Int) := by omega
            go_wp2
            go_loopg [7, 8] n (fun q x y wy => ∃ (e : Nat) (u : Nat → Nat), e + q = n ∧ e % (40) = 0 ∧ x = .int .i64 e ∧ y = .int .i64 ((e : Int) + 40) ∧ Own wy base B cap n g u ∧ Below base w wy ∧ Aside (Blk2 (key g) u 20 e n))
            case atStart => exact ⟨0, t, by omega, rfl, rfl, rfl, HO.out, hb, hk.out.to2⟩
            case round =>
              clear HO hb hk
              obtain ⟨e, u, hq, he, rfl, rfl, ho, hb, hk⟩ := hrel
              have HO : Hid (Own wr base B cap n g u) := ho
              clear ho
              have hen : e ≤ n := by omega
              have HQ : Hid (e + gk = n) := hq
              clear hq
              by_cases c1 : e + 40 ≤ n
              · obtain ⟨M, hM⟩ : ∃ M, M = e + 20 := ⟨_, rfl⟩
                obtain ⟨E, hE⟩ : ∃ E, E = e + 40 := ⟨_, rfl⟩
                have e1 : (e : Int) + 20 = (M : Int) := by omega
                have e2 : (e : Int) + 40 = (E : Int) := by omega
                have c2' : (E : Int) ≤ (n : Int) := by omega
                have HMM : Hid (M = e + 20 ∧ E = e + 40) := ⟨hM, hE⟩
                have HTW : Hid (Two (key g) u e M E) := by rw [hM, hE]; exact hk.out.two (by omega) he (by omega) (by omega) (by omega)
                clear hM hE
                go_wp2_with fail
                refine (sym_any wr base B cap n e M E g u HO.out hn (by have := HMM.out; omega) (by have := HMM.out; omega) (by omega) HTW.out).mono ?_
                rintro e' w1 ⟨rfl, v, ho1, hp1, hs1, hb1⟩
                have HO1 : Hid (Own w1 base B cap n g v) := ho1
                have HK1 : Hid (Blk2 (key g) v 20 E n) := hk.out.step (by omega) hp1 hs1 he (by have := HMM.out; omega) (by have := HMM.out; omega) (by omega)
                clear ho1 hp1 hs1
                go_wp2
                go_roundg (n - E)
                case measure => have := HQ.out; have := HMM.out; omega
                case rel => exact ⟨E, v, by omega, by have := HMM.out; omega, by first | rfl | go_num, by first | rfl | go_num, HO1.out, hb.trans hb1, HK1.out⟩
              · have c1' : ¬ (e : Int) + 40 ≤ (n : Int) := by omega
                obtain ⟨M, hM⟩ : ∃ M, M = e + 20 := ⟨_, rfl⟩
                have e1 : (e : Int) + 20 = (M : Int) := by omega
                have HMM : Hid (M = e + 20) := hM
                clear hM
                by_cases c2 : e + 20 < n
                · have c2' : (M : Int) < (n : Int) := by have := HMM.out; omega
                  go_wp2_with fail
                  refine (sym_any wr base B cap n e M n g u HO.out hn (by have := HMM.out; omega) (by have := HMM.out; omega) (Nat.le_refl _) (by rw [HMM.out]; exact hk.out.two (by omega) he (by omega) (by omega) (by omega))).mono ?_
                  rintro e' w1 ⟨rfl, v, ho1, hp1, hs1, hb1⟩
                  have HO1 : Hid (Own w1 base B cap n g v) := ho1
                  have HK1 : Hid (Blk (key g) v (40) n n) := (hk.out.step (by omega) hp1 hs1 he (by omega) (by omega) (Nat.le_refl _)).to1 (by omega) (.inr rfl) (by omega)
                  clear ho1 hp1 hs1
                  go_wp2
                  go_roundg 2
                  case measure => omega
                  case rel => exact ⟨40, v, by decide, by first | rfl | go_num, HO1.out, hb.trans hb1, HK1.out⟩
                · have c2' : ¬ (M : Int) < (n : Int) := by have := HMM.out; omega
                  have HK1 : Hid (Blk (key g) u (40) n n) := hk.out.to1 (by omega) (.inl he) (by omega)
                  go_wp2
                  go_roundg 2
                  case measure => omega
                  case rel => exact ⟨40, u, by decide, by first | rfl | go_num, HO.out, hb, HK1.out⟩
          · have t6 : (40 : Int) < (n : Int) := by omega
            go_wp2
            go_loopg [7, 8] n (fun q x y wy => ∃ (e : Nat) (u : Nat → Nat), e + q = n ∧ e % (80) = 0 ∧ x = .int .i64 e ∧ y = .int .i64 ((e : Int) + 80) ∧ Own wy base B cap n g u ∧ Below base w wy ∧ Aside (Blk2 (key g) u 40 e n))
            case atStart => exact ⟨0, t, by omega, rfl, rfl, rfl, HO.out, hb, hk.out.to2⟩
            case round =>
              clear HO hb hk
              obtain ⟨e, u, hq, he, rfl, rfl, ho, hb, hk⟩ := hrel
              have HO : Hid (Own wr base B cap n g u) := ho
              clear ho
              have hen : e ≤ n := by omega
              have HQ : Hid (e + gk = n) := hq
              clear hq
              by_cases c1 : e + 80 ≤ n
              · obtain ⟨M, hM⟩ : ∃ M, M = e + 40 := ⟨_, rfl⟩
                obtain ⟨E, hE⟩ : ∃ E, E = e + 80 := ⟨_, rfl⟩
                have e1 : (e : Int) + 40 = (M : Int) := by omega
                have e2 : (e : Int) + 80 = (E : Int) := by omega
                have c2' : (E : Int) ≤ (n : Int) := by omega
                have HMM : Hid (M = e + 40 ∧ E = e + 80) := ⟨hM, hE⟩
                have HTW : Hid (Two (key g) u e M E) := by rw [hM, hE]; exact hk.out.two (by omega) he (by omega) (by omega) (by omega)
                clear hM hE
                go_wp2_with fail
                refine (sym_any wr base B cap n e M E g u HO.out hn (by have := HMM.out; omega) (by have := HMM.out; omega) (by omega) HTW.out).mono ?_
                rintro e' w1 ⟨rfl, v, ho1, hp1, hs1, hb1⟩
                have HO1 : Hid (Own w1 base B cap n g v) := ho1
                have HK1 : Hid (Blk2 (key g) v 40 E n) := hk.out.step (by omega) hp1 hs1 he (by have := HMM.out; omega) (by have := HMM.out; omega) (by omega)
                clear ho1 hp1 hs1
                go_wp2
                go_roundg (n - E)
                case measure => have := HQ.out; have := HMM.out; omega
                case rel => exact ⟨E, v, by omega, by have := HMM.out; omega, by first | rfl | go_num, by first | rfl | go_num, HO1.out, hb.trans hb1, HK1.out⟩
              · have c1' : ¬ (e : Int) + 80 ≤ (n : Int) := by omega
                obtain ⟨M, hM⟩ : ∃ M, M = e + 40 := ⟨_, rfl⟩
                have e1 : (e : Int) + 40 = (M : Int) := by omega
                have HMM : Hid (M = e + 40) := hM
                clear hM
                by_cases c2 : e + 40 < n
                · have c2' : (M : Int) < (n : Int) := by have := HMM.out; omega
                  go_wp2_with fail
                  refine (sym_any wr base B cap n e M n g u HO.out hn (by have := HMM.out; omega) (by have := HMM.out; omega) (Nat.le_refl _) (by rw [HMM.out]; exact hk.out.two (by omega) he (by omega) (by omega) (by omega))).mono ?_
                  rintro e' w1 ⟨rfl, v, ho1, hp1, hs1, hb1⟩
                  have HO1 : Hid (Own w1 base B cap n g v) := ho1
                  have HK1 : Hid (Blk (key g) v (80) n n) := (hk.out.step (by omega) hp1 hs1 he (by omega) (by omega) (Nat.le_refl _)).to1 (by omega) (.inr rfl) (by omega)
                  clear ho1 hp1 hs1
                  go_wp2
                  go_roundg 1
                  case measure => omega
                  case rel => exact ⟨80, v, by decide, by first | rfl | go_num, HO1.out, hb.trans hb1, HK1.out⟩
                · have c2' : ¬ (M : Int) < (n : Int) := by have := HMM.out; omega
                  have HK1 : Hid (Blk (key g) u (80) n n) := hk.out.to1 (by omega) (.inl he) (by omega)
                  go_wp2
                  go_roundg 1
                  case measure => omega
                  case rel => exact ⟨80, u, by decide, by first | rfl | go_num, HO.out, hb, HK1.out⟩
          · have t6 : (80 : Int) < (n : Int) := by omega
            go_wp2
            go_loopg [7, 8] n (fun q x y wy => ∃ (e : Nat) (u : Nat → Nat), e + q = n ∧ e % (160) = 0 ∧ x = .int .i64 e ∧ y = .int .i64 ((e : Int) + 160) ∧ Own wy base B cap n g u ∧ Below base w wy ∧ Aside (Blk2 (key g) u 80 e n))
            case atStart => exact ⟨0, t, by omega, rfl, rfl, rfl, HO.out, hb, hk.out.to2⟩
            case round =>
              clear HO hb hk
              obtain ⟨e, u, hq, he, rfl, rfl, ho, hb, hk⟩ := hrel
              have HO : Hid (Own wr base B cap n g u) := ho
              clear ho
              have hen : e ≤ n := by omega
              have HQ : Hid (e + gk = n) := hq
              clear hq
              by_cases c1 : e + 160 ≤ n
              · obtain ⟨M, hM⟩ : ∃ M, M = e + 80 := ⟨_, rfl⟩
                obtain ⟨E, hE⟩ : ∃ E, E = e + 160 := ⟨_, rfl⟩
                have e1 : (e : Int) + 80 = (M : Int) := by omega
                have e2 : (e : Int) + 160 = (E : Int) := by omega
                have c2' : (E : Int) ≤ (n : Int) := by omega
                have HMM : Hid (M = e + 80 ∧ E = e + 160) := ⟨hM, hE⟩
                have HTW : Hid (Two (key g) u e M E) := by rw [hM, hE]; exact hk.out.two (by omega) he (by omega) (by omega) (by omega)
                clear hM hE
                go_wp2_with fail
                refine (sym_any wr base B cap n e M E g u HO.out hn (by have := HMM.out; omega) (by have := HMM.out; omega) (by omega) HTW.out).mono ?_
                rintro e' w1 ⟨rfl, v, ho1, hp1, hs1, hb1⟩
                have HO1 : Hid (Own w1 base B cap n g v) := ho1
                have HK1 : Hid (Blk2 (key g) v 80 E n) := hk.out.step (by omega) hp1 hs1 he (by have := HMM.out; omega) (by have := HMM.out; omega) (by omega)
                clear ho1 hp1 hs1
                go_wp2
                go_roundg (n - E)
                case measure => have := HQ.out; have := HMM.out; omega
                case rel => exact ⟨E, v, by omega, by have := HMM.out; omega, by first | rfl | go_num, by first | rfl | go_num, HO1.out, hb.trans hb1, HK1.out⟩
              · have c1' : ¬ (e : Int) + 160 ≤ (n : Int) := by omega
                obtain ⟨M, hM⟩ : ∃ M, M = e + 80 := ⟨_, rfl⟩
                have e1 : (e : Int) + 80 = (M : Int) := by omega
                have HMM : Hid (M = e + 80) := hM
                clear hM
                by_cases c2 : e + 80 < n
                · have c2' : (M : Int) < (n : Int) := by have := HMM.out; omega
                  go_wp2_with fail
                  refine (sym_any wr base B cap n e M n g u HO.out hn (by have := HMM.out; omega) (by have := HMM.out; omega) (Nat.le_refl _) (by rw [HMM.out]; exact hk.out.two (by omega) he (by omega) (by omega) (by omega))).mono ?_
                  rintro e' w1 ⟨rfl, v, ho1, hp1, hs1, hb1⟩
                  have HO1 : Hid (Own w1 base B cap n g v) := ho1
                  have HK1 : Hid (Blk (key g) v (160) n n) := (hk.out.step (by omega) hp1 hs1 he (by omega) (by omega) (Nat.le_refl _)).to1 (by omega) (.inr rfl) (by omega)
                  clear ho1 hp1 hs1
                  go_wp2
                  go_roundg 0
                  case measure => omega
                  case rel => exact ⟨160, v, by decide, by first | rfl | go_num, HO1.out, hb.trans hb1, HK1.out⟩
                · have c2' : ¬ (M : Int) < (n : Int) := by have := HMM.out; omega
                  have HK1 : Hid (Blk (key g) u (160) n n) := hk.out.to1 (by omega) (.inl he) (by omega)
                  go_wp2
                  go_roundg 0
                  case measure => omega
                  case rel => exact ⟨160, u, by decide, by first | rfl | go_num, HO.out, hb, HK1.out⟩
          · omega
        · have t6 : ¬ (z : Int) < (n : Int) := by omega
          have HF : Hid (Sorted g t n) := by
            have hh := hk.out
            refine ⟨fun i j _ c2 c3 => hh.s i j c2 c3 ?_, fun i hi => (hh.o i hi).2, hh.c⟩
            rw [Nat.div_eq_of_lt (by omega), Nat.div_eq_of_lt (by omega)]
          clear hk hz
          go_wp2
          go_end0
          exact ⟨rfl, t, HO.out, HF.out, hb⟩
end Go.Proofs.YtnebmbabfghlaaaDoor
