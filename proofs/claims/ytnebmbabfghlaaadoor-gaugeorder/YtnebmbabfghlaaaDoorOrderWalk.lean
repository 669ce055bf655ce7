/- GaugeOrder's walk: for every list and two float64s it answers true. -/
import Derived.Test.YtnebmbabfghlaaaDoorRefLeast
namespace Go.Proofs.YtnebmbabfghlaaaDoor.gaugeOrder
open Go.RowKit

theorem up_pairwise (ys : List Nat) (h : Up ys) : List.Pairwise (· ≤ ·) (ys.map K) := by
  rw [List.pairwise_map, List.pairwise_iff_getElem]
  intro i j h1 h2 h3
  have := h i j (by omega) h2
  rw [nth_eq ys i h1, nth_eq ys j h2] at this
  exact this
theorem same_K (ys zs : List Nat) (hy : Up ys) (hz : Up zs) (hp : List.Perm ys zs) (i : Nat) (hi : i < ys.length) : K (nth ys i) = K (nth zs i) := by
  have e : ys.map K = zs.map K := List.Perm.eq_of_pairwise (le := fun a b : Int => a ≤ b) (fun a b _ _ h1 h2 => Int.le_antisymm h1 h2) (up_pairwise ys hy) (up_pairwise zs hz) (hp.map K)
  have hl := hp.length_eq
  have := congrArg (fun l => l[i]?) e
  simp only [List.getElem?_map] at this
  rw [List.getElem?_eq_getElem hi, List.getElem?_eq_getElem (by omega)] at this
  rw [nth_eq ys i hi, nth_eq zs i (by omega)]
  simpa using this

theorem fat_own {w : World} {base n : Nat} {v : Value} {zs : List Nat} (h : w.ownsRow base 23 1 v n (fRow zs)) (hl : zs.length = n) (h100 : n ≤ 100) (hx : ∀ z ∈ zs, z < 18446744073709551616) : ∃ a c, v = .slice a n c ∧ FAt w a zs := by
  rcases h.2 with ⟨e, e2⟩ | ⟨g, c, cur, e, _⟩
  · subst e2
    exact ⟨none, 0, e, by omega, hx, .inl (List.eq_nil_of_length_eq_zero hl)⟩
  · refine ⟨_, c, e, by omega, hx, .inr ⟨g, 0, rfl, (h.lt g (by rw [e]; rfl)).2, fun i hi => ?_⟩⟩
    subst e
    rw [Nat.zero_add, h.cellAt i (by omega), fRow_at _ _ hi]

theorem least_len (a : Option Addr) (cap n : Nat) (xs : List Nat) (w : World) (h : FAt w a xs) (hn : xs.length = n) (hcap : n ≤ cap) (hc2 : cap ≤ 140737488351232) :
    Calls Tryd.prog 11 #[.slice a n cap] w fun e w' => e = .returned (.tuple #[.float .f64 (leastF xs), .bool (someB xs)]) ∧ w' = w := by subst hn; exact least_any a cap xs w h hcap hc2
theorem greatest_len (a : Option Addr) (cap n : Nat) (xs : List Nat) (w : World) (h : FAt w a xs) (hn : xs.length = n) (hcap : n ≤ cap) (hc2 : cap ≤ 140737488351232) :
    Calls Tryd.prog 13 #[.slice a n cap] w fun e w' => e = .returned (.tuple #[.float .f64 (greatestF xs), .bool (someB xs)]) ∧ w' = w := by subst hn; exact greatest_any a cap xs w h hcap hc2
theorem sort_len (a : Option Addr) (cap n : Nat) (xs : List Nat) (w : World) (h : FAt w a xs) (hn : xs.length = n) (hnil : a = none → n = 0 ∧ cap = 0) :
    Calls Tryd.prog 21 #[.slice a n cap] w fun e w' => ∃ a' cap' ys, e = .returned (.slice a' n cap') ∧ (a' = none → n = 0 ∧ cap' = 0) ∧ SortOf w w' a' n xs ys := by
  subst hn; exact sort_any a cap xs w h (fun e => ⟨List.eq_nil_of_length_eq_zero (hnil e).1, (hnil e).2⟩)
theorem rank_len (a : Option Addr) (cap x : Nat) (xs : List Nat) (n : Nat) (w : World) (h : FAt w a xs) (hn : xs.length = n) :
    Calls Tryd.prog 18 #[.slice a n cap, .float .f64 x] w fun e w' => e = .returned (.int .i64 (rankN xs x : Nat)) ∧ w' = w := by
  subst hn; exact rank_any a cap x xs w h
theorem refRank_len (a : Option Addr) (cap x : Nat) (xs : List Nat) (n : Nat) (w : World) (h : FAt w a xs) (hn : xs.length = n) :
    Calls Tryd.prog 19 #[.slice a n cap, .float .f64 x] w fun e w' => e = .returned (.int .i64 (rankN xs x : Nat)) ∧ w' = w := by
  subst hn; exact refRank_any a cap x xs w h
theorem refSort_len (a : Option Addr) (cap n : Nat) (xs : List Nat) (w : World) (h : FAt w a xs) (hn : xs.length = n) :
    Calls Tryd.prog 22 #[.slice a n cap] w fun e w' => ∃ v' zs, e = .returned v' ∧ w'.ownsRow w.heap.size 23 1 v' n (fRow zs) ∧ zs.length = n ∧ Up zs ∧ List.Perm zs xs ∧ Below w.heap.size w w' := by
  subst hn; exact refSort_any a cap xs w h

theorem least_same (xs : List Nat) (n y : Nat) (hn : xs.length = n) (hx : ∀ z ∈ xs, z < 18446744073709551616) (h0 : n = 0 → y = 0) (h1 : 0 < n → ∃ p, p < n ∧ y = nth xs p ∧ rankN xs y = 0) : sameB (leastF xs) y = true := by
  rcases Nat.eq_zero_or_pos n with e | e
  · rw [h0 e]
    have : xs = [] := List.eq_nil_of_length_eq_zero (by omega)
    subst this; rfl
  · obtain ⟨p, hp, rfl, hr⟩ := h1 e
    obtain ⟨p2, h2, h3, h4⟩ := least_at xs (n - 1) (by omega)
    have e1 : n - 1 + 1 = n := by omega
    rw [e1, List.take_of_length_le (by omega)] at h3
    unfold leastF
    rw [h3]
    refine (same_iff ?_ ?_).2 ?_
    · rw [nth_eq xs p2 (by omega)]; exact hx _ (List.getElem_mem _)
    · rw [nth_eq xs p (by omega)]; exact hx _ (List.getElem_mem _)
    · have a1 := (rank_zero_iff xs _).1 hr p2 (by omega)
      by_cases c : p = p2
      · rw [c]
      · have a2 := (h4 p (by omega) c).le
        unfold key at a2; omega
theorem greatest_same (xs : List Nat) (n y : Nat) (hn : xs.length = n) (hx : ∀ z ∈ xs, z < 18446744073709551616) (h0 : n = 0 → y = 0) (h1 : 0 < n → ∃ p, p < n ∧ y = nth xs p ∧ ∀ j, j < n → ¬ K y < K (nth xs j)) : sameB (greatestF xs) y = true := by
  rcases Nat.eq_zero_or_pos n with e | e
  · rw [h0 e]
    have : xs = [] := List.eq_nil_of_length_eq_zero (by omega)
    subst this; rfl
  · obtain ⟨p, hp, rfl, hr⟩ := h1 e
    obtain ⟨p2, h2, h3, h4⟩ := greatest_at xs (n - 1) (by omega)
    have e1 : n - 1 + 1 = n := by omega
    rw [e1, List.take_of_length_le (by omega)] at h3
    unfold greatestF
    rw [h3]
    refine (same_iff ?_ ?_).2 ?_
    · rw [nth_eq xs p2 (by omega)]; exact hx _ (List.getElem_mem _)
    · rw [nth_eq xs p (by omega)]; exact hx _ (List.getElem_mem _)
    · have a1 := hr p2 (by omega)
      have a2 := h4 p (by omega)
      omega

set_option maxRecDepth 20000 in
set_option maxHeartbeats 8000000 in
theorem walk (a0 : Option Addr) (cap0 : Nat) (xs0 : List Nat) (x y : Nat) (w : World) (h0 : FIn w a0 cap0 xs0) (_ : x < 18446744073709551616) (_ : y < 18446744073709551616) :
    Calls Tryd.prog 3 #[.slice a0 xs0.length cap0, .float .f64 x, .float .f64 y] w fun e w' => e = .returned (.bool true) ∧ Below w.heap.size w w' := by
  obtain ⟨xs, hxc, G0, E0⟩ := early_cut a0 cap0 xs0 w h0
  have HN0 : Hid (a0 = none → xs.length = 0 ∧ cap0 = 0) := fun e => by
    have h := h0.2.2.1 e
    rw [h.2] at hxc
    exact ⟨by omega, h.2⟩
  have hcap0 := h0.2.1
  clear h0
  obtain ⟨n, hn⟩ : ∃ n, xs.length = n := ⟨_, rfl⟩
  rw [hn] at E0 HN0 hxc
  have HLX : Hid (xs.length = n) := hn
  have hn100 : n ≤ 100 := by have := G0.out.1; omega
  clear hn
  go_enter Tryd.func3, Tryd.ntmps3
  go_wp2_with fail
  refine (lives_any _).mono ?_
  rintro e w1 ⟨rfl, hb1⟩
  go_wp2_with fail
  refine Calls.mono (Hid.out E0 w1) ?_
  rintro e w' ⟨rfl, rfl⟩
  have F0 : Hid (FAt w' a0 xs) := G0.out.below hb1 (Nat.le_refl _)
  clear G0 E0
  go_wp2_with fail
  refine (least_len a0 cap0 n xs w' F0.out HLX.out hxc hcap0).mono ?_
  rintro e w2 ⟨rfl, rfl⟩
  go_wp2_with fail
  refine (refLeast_any a0 cap0 n xs w2 F0.out HLX.out).mono ?_
  rintro e w3 ⟨yl, rfl, y1, y2, rfl⟩
  have sl : sameB (leastF xs) yl = true := least_same xs n yl HLX.out F0.out.2.1 y1 y2
  clear y1 y2
  go_wp2_with fail
  refine (greatest_len a0 cap0 n xs w3 F0.out HLX.out hxc hcap0).mono ?_
  rintro e w4 ⟨rfl, rfl⟩
  go_wp2_with fail
  refine (refGreatest_any a0 cap0 n xs w4 F0.out HLX.out).mono ?_
  rintro e w5 ⟨yg, rfl, y1, y2, hb5⟩
  have sg : sameB (greatestF xs) yg = true := greatest_same xs n yg HLX.out F0.out.2.1 y1 y2
  have F5 : Hid (FAt w5 a0 xs) := F0.out.below hb5 (Nat.le_refl _)
  have B5 : Hid (Below w.heap.size w w5) := hb1.trans (hb5.mono hb1.size)
  have HXB : Hid (∀ z ∈ xs, z < 18446744073709551616) := F0.out.2.1
  clear y1 y2 F0 hb5 hb1
  go_wp2_with fail
  refine (compare_any _ _ _).mono ?_
  rintro e w6 ⟨rfl, rfl⟩
  go_wp2_with fail
  refine (refCompare_any _ _ _).mono ?_
  rintro e w7 ⟨rfl, rfl⟩
  have ec : (cmpI x y == cmpI x y) = true := by simp
  go_wp2_with fail
  refine (same_any _ _ _).mono ?_
  rintro e w8 ⟨rfl, rfl⟩
  rw [sl]
  go_wp2_with fail
  refine (same_any _ _ _).mono ?_
  rintro e w9 ⟨rfl, rfl⟩
  rw [sg]
  go_wp2_with fail
  refine (rank_len a0 cap0 x xs n w9 F5.out HLX.out).mono ?_
  rintro e w10 ⟨rfl, rfl⟩
  go_wp2_with fail
  refine (refRank_len a0 cap0 x xs n w10 F5.out HLX.out).mono ?_
  rintro e w11 ⟨rfl, rfl⟩
  go_wp2_with fail
  refine (sort_len a0 cap0 n xs w11 F5.out HLX.out HN0.out).mono ?_
  rintro e w12 ⟨a1, cap1, ys, rfl, _, hso⟩
  have HSO : Hid (SortOf w11 w12 a1 n xs ys) := hso
  have F12 : Hid (FAt w12 a0 xs) := F5.out.below hso.b (Nat.le_refl _)
  clear hso
  go_wp2_with fail
  refine (refSort_len a0 cap0 n xs w12 F12.out HLX.out).mono ?_
  rintro e w13 ⟨v', zs, rfl, hrow, hzl, hzu, hzp, hb13⟩
  obtain ⟨a2, c2, rfl, fz⟩ := fat_own hrow hzl hn100 (fun z hz => HXB.out z (hzp.mem_iff.1 hz))
  have FZ : Hid (FAt w13 a2 zs) := fz
  have FY : Hid (FAt w13 a1 ys) := HSO.out.at_.below hb13 (Nat.le_refl _)
  have HSM : Hid (∀ i, i < n → sameB (nth ys i) (nth zs i) = true) := fun i hi => by
    refine (same_iff ?_ ?_).2 (same_K ys zs HSO.out.up hzu ((HSO.out.perm HLX.out).trans hzp.symm) i (by rw [HSO.out.len]; exact hi))
    · exact FY.out.nth_lt i
    · exact FZ.out.nth_lt i
  have HZL : Hid (zs.length = n) := hzl
  have B13 : Hid (Below w.heap.size w w13) := (B5.out.trans (HSO.out.b.mono (by have := B5.out.size; omega))).trans (hb13.mono (by have := B5.out.size; have := HSO.out.b.size; omega))
  clear hrow hzl hzu hzp hb13 fz
  go_wp2_with fail
  refine (sameLists_yes a1 a2 cap1 c2 ys zs n w13 HSO.out.len HZL.out FY.out FZ.out HSM.out).mono ?_
  rintro e w14 ⟨rfl, hb14⟩
  have BF : Hid (Below w.heap.size w w14) := B13.out.trans (hb14.mono (by have := B13.out.size; omega))
  clear hb14
  go_wp2
  go_ret
  exact ⟨rfl, BF.out⟩
end Go.Proofs.YtnebmbabfghlaaaDoor.gaugeOrder
