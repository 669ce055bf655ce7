/- Proved: for every card and every slice of words 'CardsBack' returns true and its arguments read afterwards as before. No condition. -/
import Derived.Test.YtechglhmdofcbaaOpen
namespace Go.Proofs.Ytechglhmdofcbaa.cardsBack
open Go.ChangeShapes Go.WideShapes Go.ChangeAt Go.RowKit
set_option linter.unusedVariables false

theorem rt_zero : ¬ Rt 0 0 0 0 0 0 0 0 0 := by unfold Rt No Fl; omega
theorem says_back {k l s d0 d1 d2 d3 d4 m : Int} (h : Rt k l s d0 d1 d2 d3 d4 m) : Says (wd0 k l s) (wd2 d0 d1 d2 d3) (wd3 d4 m) k l s d0 d1 d2 d3 d4 m := by
  have := h.fit
  unfold Fit Bk at this
  unfold Says wd0 wd2 wd3
  refine ⟨?_, ?_, ?_, ?_, ?_, ?_, ?_, ?_, ?_⟩ <;> omega
theorem read_back (g : Nat) (k l s v d0 d1 d2 d3 d4 m : Int) (w : World) (h : Rt k l s d0 d1 d2 d3 d4 m) (hs : Src w g 0 (wd0 k l s) v (wd2 d0 d1 d2 d3) (wd3 d4 m) 0 0 0 0) :
    Calls Try.prog 14 #[.slice (some ⟨g, 0, none⟩) 8 8] w fun e w' => e = .returned (.tuple #[.agg #[.int .i64 k, .int .i64 l, .int .i64 s, .int .u64 v, .int .i64 d0, .int .i64 d1, .int .i64 d2, .int .i64 d3, .int .i64 d4, .int .i64 m], .int .i64 0]) ∧ Below w.heap.size w w' :=
  read_yes g 0 8 _ v _ _ 0 0 0 0 k l s d0 d1 d2 d3 d4 m w hs (wd_bd h).1 (wd_bd h).2.1 (wd_bd h).2.2 (says_back h) h ⟨rfl, rfl, rfl, rfl, rfl, rfl, rfl⟩
set_option maxHeartbeats 2000000 in
theorem walk_yes_yes (k l s v d0 d1 d2 d3 d4 m : Int) (b o c : Nat) (k' l' s' v' e0 e1 e2 e3 e4 m' : Int) (w : World) (h : Rt k l s d0 d1 d2 d3 d4 m)
    (h2 : ∀ w', Below w.heap.size w w' → Calls Try.prog 14 #[.slice (some ⟨b, o, none⟩) 8 c] w' fun e w2 => e = .returned (.tuple #[.agg #[.int .i64 k', .int .i64 l', .int .i64 s', .int .u64 v', .int .i64 e0, .int .i64 e1, .int .i64 e2, .int .i64 e3, .int .i64 e4, .int .i64 m'], .int .i64 0]) ∧ Below w'.heap.size w' w2) (hr : Rt k' l' s' e0 e1 e2 e3 e4 m') (hsl : ∀ w' g', Below w.heap.size w w' → Src w' g' 0 (wd0 k' l' s') v' (wd2 e0 e1 e2 e3) (wd3 e4 m') 0 0 0 0 → Calls Try.prog 11 #[.slice (some ⟨g', 0, none⟩) 8 8, .slice (some ⟨b, o, none⟩) 8 c] w' fun e w2 => e = .returned (.bool true) ∧ Below w'.heap.size w' w2) :
    Calls Try.prog 5 #[.agg #[.int .i64 k, .int .i64 l, .int .i64 s, .int .u64 v, .int .i64 d0, .int .i64 d1, .int .i64 d2, .int .i64 d3, .int .i64 d4, .int .i64 m], .slice (some ⟨b, o, none⟩) 8 c] w fun e w' => e = .returned (.bool true) ∧ Below w.heap.size w w' := by
  have H : Hid (Rt k l s d0 d1 d2 d3 d4 m) := h
  have H2 : Hid _ := h2
  have HR : Hid _ := hr
  have HSL : Hid _ := hsl
  clear hr hsl
  have he : ∀ w, (Op.equalIn 10000 25 (.agg #[.int .i64 k, .int .i64 l, .int .i64 s, .int .u64 v, .int .i64 d0, .int .i64 d1, .int .i64 d2, .int .i64 d3, .int .i64 d4, .int .i64 m]) (.agg #[.int .i64 k, .int .i64 l, .int .i64 s, .int .u64 v, .int .i64 d0, .int .i64 d1, .int .i64 d2, .int .i64 d3, .int .i64 d4, .int .i64 m])).run Try.prog w = .ok true w := fun w => by
    rw [eq_card]; simp
  clear h h2
  go_enter Try.func5, Try.ntmps5
  go_wp2_with fail
  obtain ⟨W, hW, HS, HE, HC⟩ := new_card w k l s v d0 d1 d2 d3 d4 m
  rw [hW]
  clear hW
  refine (lives_any _).mono ?_
  rintro e w1 ⟨rfl, bel⟩
  have B1 : Hid (Below W.heap.size W w1) := bel
  obtain ⟨c0, c1, c2, c3, c4, c5, c6, c7, c8, c9⟩ := HC.out w1 bel
  clear bel
  go_wp2_with fail
  refine (write_yes k l s v d0 d1 d2 d3 d4 m _ H.out).mono ?_
  rintro e w2 ⟨g, rfl, hg1, hg2, hrow, B2⟩
  have S2 : Hid (Src w2 g 0 (wd0 k l s) v (wd2 d0 d1 d2 d3) (wd3 d4 m) 0 0 0 0) := hrow.src hg2
  clear hrow hg1 hg2
  have HB2 : Hid (Below W.heap.size W w2) := below_next B1.out B2 (Nat.le_refl _)
  clear B2 c0 c1 c2 c3 c4 c5 c6 c7 c8 c9
  go_wp2_with fail
  refine (read_back g k l s v d0 d1 d2 d3 d4 m _ H.out S2.out).mono ?_
  rintro e w3 ⟨rfl, B3⟩
  have HB3 : Hid (Below W.heap.size W w3) := below_next HB2.out B3 (Nat.le_refl _)
  clear B3
  obtain ⟨c0, c1, c2, c3, c4, c5, c6, c7, c8, c9⟩ := HC.out w3 HB3.out
  have hlt : w.heap.size < w3.heap.size := by have := HS.out; have := HB3.out.size; omega
  go_wp2_with fail
  clear c0 c1 c2 c3 c4 c5 c6 c7 c8 c9 hlt
  obtain ⟨X, hX, XS, XE, XC⟩ := new_card w3 k l s v d0 d1 d2 d3 d4 m
  rw [hX]
  clear hX
  have HBX : Hid (Below w.heap.size w X) := HE.out _ (below_next HB3.out (XE.out _ (Below.refl _ _)) (Nat.le_refl _))
  refine Calls.mono (Hid.out H2 _ HBX.out) ?_
  rintro e w4 ⟨rfl, B4⟩
  have HB4 : Hid (Below w.heap.size w w4) := below_next HBX.out B4 (Nat.le_refl _)
  clear B4
  go_wp2_with fail
  obtain ⟨Y, hY, YS, YE, YC⟩ := new_card w4 k' l' s' v' e0 e1 e2 e3 e4 m'
  rw [hY]
  clear hY
  refine (write_yes k' l' s' v' e0 e1 e2 e3 e4 m' _ HR.out).mono ?_
  rintro e w5 ⟨g', rfl, hg1, hg2, hrow, B5⟩
  have S5 : Hid (Src w5 g' 0 (wd0 k' l' s') v' (wd2 e0 e1 e2 e3) (wd3 e4 m') 0 0 0 0) := hrow.src hg2
  clear hrow hg1 hg2
  have HB5 : Hid (Below w.heap.size w w5) := below_next HB4.out (YE.out _ B5) (Nat.le_refl _)
  clear B5
  have HSM : Hid (Calls Try.prog 11 #[.slice (some ⟨g', 0, none⟩) 8 8, .slice (some ⟨b, o, none⟩) 8 c] w5 fun e w2 => e = .returned (.bool true) ∧ Below w5.heap.size w5 w2) := HSL.out _ _ HB5.out S5.out
  go_wp2_with fail
  refine Calls.mono HSM.out ?_
  rintro e w6 ⟨rfl, B6⟩
  have BF : Hid (Below w.heap.size w w6) := below_next HB5.out B6 (Nat.le_refl _)
  clear B6
  go_wp2
  go_ret
  exact ⟨rfl, BF.out⟩
set_option maxHeartbeats 2000000 in
theorem walk_yes_no (k l s v d0 d1 d2 d3 d4 m : Int) (a : Option Addr) (n c : Nat) (w : World) (h : Rt k l s d0 d1 d2 d3 d4 m)
    (h2 : ∀ w', Below w.heap.size w w' → Calls Try.prog 14 #[.slice a n c] w' fun e w2 => e = .returned (.tuple #[.agg #[.int .i64 0, .int .i64 0, .int .i64 0, .int .u64 0, .int .i64 0, .int .i64 0, .int .i64 0, .int .i64 0, .int .i64 0, .int .i64 0], .int .i64 15]) ∧ Below w'.heap.size w' w2) :
    Calls Try.prog 5 #[.agg #[.int .i64 k, .int .i64 l, .int .i64 s, .int .u64 v, .int .i64 d0, .int .i64 d1, .int .i64 d2, .int .i64 d3, .int .i64 d4, .int .i64 m], .slice a n c] w fun e w' => e = .returned (.bool true) ∧ Below w.heap.size w w' := by
  have H : Hid (Rt k l s d0 d1 d2 d3 d4 m) := h
  have H2 : Hid _ := h2
  have he : ∀ w, (Op.equalIn 10000 25 (.agg #[.int .i64 k, .int .i64 l, .int .i64 s, .int .u64 v, .int .i64 d0, .int .i64 d1, .int .i64 d2, .int .i64 d3, .int .i64 d4, .int .i64 m]) (.agg #[.int .i64 k, .int .i64 l, .int .i64 s, .int .u64 v, .int .i64 d0, .int .i64 d1, .int .i64 d2, .int .i64 d3, .int .i64 d4, .int .i64 m])).run Try.prog w = .ok true w := fun w => by
    rw [eq_card]; simp
  clear h h2
  go_enter Try.func5, Try.ntmps5
  go_wp2_with fail
  obtain ⟨W, hW, HS, HE, HC⟩ := new_card w k l s v d0 d1 d2 d3 d4 m
  rw [hW]
  clear hW
  refine (lives_any _).mono ?_
  rintro e w1 ⟨rfl, bel⟩
  have B1 : Hid (Below W.heap.size W w1) := bel
  obtain ⟨c0, c1, c2, c3, c4, c5, c6, c7, c8, c9⟩ := HC.out w1 bel
  clear bel
  go_wp2_with fail
  refine (write_yes k l s v d0 d1 d2 d3 d4 m _ H.out).mono ?_
  rintro e w2 ⟨g, rfl, hg1, hg2, hrow, B2⟩
  have S2 : Hid (Src w2 g 0 (wd0 k l s) v (wd2 d0 d1 d2 d3) (wd3 d4 m) 0 0 0 0) := hrow.src hg2
  clear hrow hg1 hg2
  have HB2 : Hid (Below W.heap.size W w2) := below_next B1.out B2 (Nat.le_refl _)
  clear B2 c0 c1 c2 c3 c4 c5 c6 c7 c8 c9
  go_wp2_with fail
  refine (read_back g k l s v d0 d1 d2 d3 d4 m _ H.out S2.out).mono ?_
  rintro e w3 ⟨rfl, B3⟩
  have HB3 : Hid (Below W.heap.size W w3) := below_next HB2.out B3 (Nat.le_refl _)
  clear B3
  obtain ⟨c0, c1, c2, c3, c4, c5, c6, c7, c8, c9⟩ := HC.out w3 HB3.out
  have hlt : w.heap.size < w3.heap.size := by have := HS.out; have := HB3.out.size; omega
  go_wp2_with fail
  clear c0 c1 c2 c3 c4 c5 c6 c7 c8 c9 hlt
  obtain ⟨X, hX, XS, XE, XC⟩ := new_card w3 k l s v d0 d1 d2 d3 d4 m
  rw [hX]
  clear hX
  have HBX : Hid (Below w.heap.size w X) := HE.out _ (below_next HB3.out (XE.out _ (Below.refl _ _)) (Nat.le_refl _))
  refine Calls.mono (Hid.out H2 _ HBX.out) ?_
  rintro e w4 ⟨rfl, B4⟩
  have HB4 : Hid (Below w.heap.size w w4) := below_next HBX.out B4 (Nat.le_refl _)
  clear B4
  go_wp2_with fail
  obtain ⟨Y, hY, YS, YE, YC⟩ := new_card w4 0 0 0 0 0 0 0 0 0 0
  rw [hY]
  clear hY
  refine (write_no 0 0 0 0 0 0 0 0 0 0 _ rt_zero).mono ?_
  rintro e w5 ⟨rfl, B5⟩
  have BF : Hid (Below w.heap.size w w5) := below_next HB4.out (YE.out _ B5) (Nat.le_refl _)
  clear B5
  go_wp2
  go_ret
  exact ⟨rfl, BF.out⟩
set_option maxHeartbeats 2000000 in
theorem walk_no_yes (k l s v d0 d1 d2 d3 d4 m : Int) (b o c : Nat) (k' l' s' v' e0 e1 e2 e3 e4 m' : Int) (w : World) (h : ¬ Rt k l s d0 d1 d2 d3 d4 m)
    (h2 : ∀ w', Below w.heap.size w w' → Calls Try.prog 14 #[.slice (some ⟨b, o, none⟩) 8 c] w' fun e w2 => e = .returned (.tuple #[.agg #[.int .i64 k', .int .i64 l', .int .i64 s', .int .u64 v', .int .i64 e0, .int .i64 e1, .int .i64 e2, .int .i64 e3, .int .i64 e4, .int .i64 m'], .int .i64 0]) ∧ Below w'.heap.size w' w2) (hr : Rt k' l' s' e0 e1 e2 e3 e4 m') (hsl : ∀ w' g', Below w.heap.size w w' → Src w' g' 0 (wd0 k' l' s') v' (wd2 e0 e1 e2 e3) (wd3 e4 m') 0 0 0 0 → Calls Try.prog 11 #[.slice (some ⟨g', 0, none⟩) 8 8, .slice (some ⟨b, o, none⟩) 8 c] w' fun e w2 => e = .returned (.bool true) ∧ Below w'.heap.size w' w2) :
    Calls Try.prog 5 #[.agg #[.int .i64 k, .int .i64 l, .int .i64 s, .int .u64 v, .int .i64 d0, .int .i64 d1, .int .i64 d2, .int .i64 d3, .int .i64 d4, .int .i64 m], .slice (some ⟨b, o, none⟩) 8 c] w fun e w' => e = .returned (.bool true) ∧ Below w.heap.size w w' := by
  have H : Hid (¬ Rt k l s d0 d1 d2 d3 d4 m) := h
  have H2 : Hid _ := h2
  have HR : Hid _ := hr
  have HSL : Hid _ := hsl
  clear hr hsl
  clear h h2
  go_enter Try.func5, Try.ntmps5
  go_wp2_with fail
  obtain ⟨W, hW, HS, HE, HC⟩ := new_card w k l s v d0 d1 d2 d3 d4 m
  rw [hW]
  clear hW
  refine (lives_any _).mono ?_
  rintro e w1 ⟨rfl, bel⟩
  have B1 : Hid (Below W.heap.size W w1) := bel
  obtain ⟨c0, c1, c2, c3, c4, c5, c6, c7, c8, c9⟩ := HC.out w1 bel
  clear bel
  go_wp2_with fail
  refine (write_no k l s v d0 d1 d2 d3 d4 m _ H.out).mono ?_
  rintro e w2 ⟨rfl, B2⟩
  have HB2 : Hid (Below W.heap.size W w2) := below_next B1.out B2 (Nat.le_refl _)
  clear B2 c0 c1 c2 c3 c4 c5 c6 c7 c8 c9
  go_wp2_with fail
  refine (read_len none 0 0 _ (by decide)).mono ?_
  rintro e w3 ⟨rfl, B3⟩
  have HB3 : Hid (Below W.heap.size W w3) := below_next HB2.out B3 (Nat.le_refl _)
  clear B3
  go_wp2_with fail
  obtain ⟨X, hX, XS, XE, XC⟩ := new_card w3 0 0 0 0 0 0 0 0 0 0
  rw [hX]
  clear hX
  have HBX : Hid (Below w.heap.size w X) := HE.out _ (below_next HB3.out (XE.out _ (Below.refl _ _)) (Nat.le_refl _))
  refine Calls.mono (Hid.out H2 _ HBX.out) ?_
  rintro e w4 ⟨rfl, B4⟩
  have HB4 : Hid (Below w.heap.size w w4) := below_next HBX.out B4 (Nat.le_refl _)
  clear B4
  go_wp2_with fail
  obtain ⟨Y, hY, YS, YE, YC⟩ := new_card w4 k' l' s' v' e0 e1 e2 e3 e4 m'
  rw [hY]
  clear hY
  refine (write_yes k' l' s' v' e0 e1 e2 e3 e4 m' _ HR.out).mono ?_
  rintro e w5 ⟨g', rfl, hg1, hg2, hrow, B5⟩
  have S5 : Hid (Src w5 g' 0 (wd0 k' l' s') v' (wd2 e0 e1 e2 e3) (wd3 e4 m') 0 0 0 0) := hrow.src hg2
  clear hrow hg1 hg2
  have HB5 : Hid (Below w.heap.size w w5) := below_next HB4.out (YE.out _ B5) (Nat.le_refl _)
  clear B5
  have HSM : Hid (Calls Try.prog 11 #[.slice (some ⟨g', 0, none⟩) 8 8, .slice (some ⟨b, o, none⟩) 8 c] w5 fun e w2 => e = .returned (.bool true) ∧ Below w5.heap.size w5 w2) := HSL.out _ _ HB5.out S5.out
  go_wp2_with fail
  refine Calls.mono HSM.out ?_
  rintro e w6 ⟨rfl, B6⟩
  have BF : Hid (Below w.heap.size w w6) := below_next HB5.out B6 (Nat.le_refl _)
  clear B6
  go_wp2
  go_ret
  exact ⟨rfl, BF.out⟩
set_option maxHeartbeats 2000000 in
theorem walk_no_no (k l s v d0 d1 d2 d3 d4 m : Int) (a : Option Addr) (n c : Nat) (w : World) (h : ¬ Rt k l s d0 d1 d2 d3 d4 m)
    (h2 : ∀ w', Below w.heap.size w w' → Calls Try.prog 14 #[.slice a n c] w' fun e w2 => e = .returned (.tuple #[.agg #[.int .i64 0, .int .i64 0, .int .i64 0, .int .u64 0, .int .i64 0, .int .i64 0, .int .i64 0, .int .i64 0, .int .i64 0, .int .i64 0], .int .i64 15]) ∧ Below w'.heap.size w' w2) :
    Calls Try.prog 5 #[.agg #[.int .i64 k, .int .i64 l, .int .i64 s, .int .u64 v, .int .i64 d0, .int .i64 d1, .int .i64 d2, .int .i64 d3, .int .i64 d4, .int .i64 m], .slice a n c] w fun e w' => e = .returned (.bool true) ∧ Below w.heap.size w w' := by
  have H : Hid (¬ Rt k l s d0 d1 d2 d3 d4 m) := h
  have H2 : Hid _ := h2
  clear h h2
  go_enter Try.func5, Try.ntmps5
  go_wp2_with fail
  obtain ⟨W, hW, HS, HE, HC⟩ := new_card w k l s v d0 d1 d2 d3 d4 m
  rw [hW]
  clear hW
  refine (lives_any _).mono ?_
  rintro e w1 ⟨rfl, bel⟩
  have B1 : Hid (Below W.heap.size W w1) := bel
  obtain ⟨c0, c1, c2, c3, c4, c5, c6, c7, c8, c9⟩ := HC.out w1 bel
  clear bel
  go_wp2_with fail
  refine (write_no k l s v d0 d1 d2 d3 d4 m _ H.out).mono ?_
  rintro e w2 ⟨rfl, B2⟩
  have HB2 : Hid (Below W.heap.size W w2) := below_next B1.out B2 (Nat.le_refl _)
  clear B2 c0 c1 c2 c3 c4 c5 c6 c7 c8 c9
  go_wp2_with fail
  refine (read_len none 0 0 _ (by decide)).mono ?_
  rintro e w3 ⟨rfl, B3⟩
  have HB3 : Hid (Below W.heap.size W w3) := below_next HB2.out B3 (Nat.le_refl _)
  clear B3
  go_wp2_with fail
  obtain ⟨X, hX, XS, XE, XC⟩ := new_card w3 0 0 0 0 0 0 0 0 0 0
  rw [hX]
  clear hX
  have HBX : Hid (Below w.heap.size w X) := HE.out _ (below_next HB3.out (XE.out _ (Below.refl _ _)) (Nat.le_refl _))
  refine Calls.mono (Hid.out H2 _ HBX.out) ?_
  rintro e w4 ⟨rfl, B4⟩
  have HB4 : Hid (Below w.heap.size w w4) := below_next HBX.out B4 (Nat.le_refl _)
  clear B4
  go_wp2_with fail
  obtain ⟨Y, hY, YS, YE, YC⟩ := new_card w4 0 0 0 0 0 0 0 0 0 0
  rw [hY]
  clear hY
  refine (write_no 0 0 0 0 0 0 0 0 0 0 _ rt_zero).mono ?_
  rintro e w5 ⟨rfl, B5⟩
  have BF : Hid (Below w.heap.size w w5) := below_next HB4.out (YE.out _ B5) (Nat.le_refl _)
  clear B5
  go_wp2
  go_ret
  exact ⟨rfl, BF.out⟩
theorem self8 {a0 a1 a2 a3 a4 a5 a6 a7 b0 b2 b3 b4 b5 b6 b7 : Int} (h : b0 = a0 ∧ b2 = a2 ∧ b3 = a3 ∧ b4 = a4 ∧ b5 = a5 ∧ b6 = a6 ∧ b7 = a7) : (b0 = a0 ∧ a1 = a1 ∧ b2 = a2 ∧ b3 = a3 ∧ b4 = a4 ∧ b5 = a5 ∧ b6 = a6 ∧ b7 = a7) ↔ true = true := ⟨fun _ => rfl, fun _ => ⟨h.1, rfl, h.2⟩⟩
theorem walk_of (k l s v d0 d1 d2 d3 d4 m : Int) (a : Option Addr) (n c : Nat) (w : World)
    (h2 : ∀ w', Below w.heap.size w w' → Calls Try.prog 14 #[.slice a n c] w' fun e w2 => e = .returned (.tuple #[.agg #[.int .i64 0, .int .i64 0, .int .i64 0, .int .u64 0, .int .i64 0, .int .i64 0, .int .i64 0, .int .i64 0, .int .i64 0, .int .i64 0], .int .i64 15]) ∧ Below w'.heap.size w' w2) :
    Calls Try.prog 5 #[.agg #[.int .i64 k, .int .i64 l, .int .i64 s, .int .u64 v, .int .i64 d0, .int .i64 d1, .int .i64 d2, .int .i64 d3, .int .i64 d4, .int .i64 m], .slice a n c] w fun e w' => e = .returned (.bool true) ∧ Below w.heap.size w w' := by
  by_cases h : Rt k l s d0 d1 d2 d3 d4 m
  · exact walk_yes_no k l s v d0 d1 d2 d3 d4 m a n c w h h2
  · exact walk_no_no k l s v d0 d1 d2 d3 d4 m a n c w h h2
theorem walk (ck cl cs cv f0 f1 f2 f3 f4 cm : Int) (a : Option Addr) (n c : Nat) (w : World) (_ : In64 ck) (_ : In64 cl) (_ : In64 cs) (_ : 0 ≤ cv ∧ cv ≤ 18446744073709551615) (_ : In64 f0) (_ : In64 f1) (_ : In64 f2) (_ : In64 f3) (_ : In64 f4) (_ : In64 cm) (h : Words w a n) :
    Calls Try.prog 5 #[.agg #[.int .i64 ck, .int .i64 cl, .int .i64 cs, .int .u64 cv, .int .i64 f0, .int .i64 f1, .int .i64 f2, .int .i64 f3, .int .i64 f4, .int .i64 cm], .slice a n c] w fun e w' => e = .returned (.bool true) ∧ Below w.heap.size w w' := by
  rcases h with h | ⟨rfl, b, o, a0, a1, a2, a3, a4, a5, a6, a7, rfl, hs, h0, h2, h3⟩
  · exact walk_of ck cl cs cv f0 f1 f2 f3 f4 cm a n c w (fun w' _ => read_len a n c w' h)
  · obtain ⟨k, l, s, d0, d1, d2, d3, d4, m, hy⟩ : ∃ k l s d0 d1 d2 d3 d4 m, Says a0 a2 a3 k l s d0 d1 d2 d3 d4 m := ⟨_, _, _, _, _, _, _, _, _, rfl, rfl, rfl, rfl, rfl, rfl, rfl, rfl, rfl⟩
    by_cases hr : Rt k l s d0 d1 d2 d3 d4 m
    · by_cases hq : wd0 k l s = a0 ∧ wd2 d0 d1 d2 d3 = a2 ∧ wd3 d4 m = a3 ∧ 0 = a4 ∧ 0 = a5 ∧ 0 = a6 ∧ 0 = a7
      · by_cases hc : Rt ck cl cs f0 f1 f2 f3 f4 cm
        · exact walk_yes_yes ck cl cs cv f0 f1 f2 f3 f4 cm b o c k l s a1 d0 d1 d2 d3 d4 m w hc (fun w' hb => read_yes b o c a0 a1 a2 a3 a4 a5 a6 a7 k l s d0 d1 d2 d3 d4 m w' (hs.later (Nat.le_refl _) hb) h0 h2 h3 hy hr hq) hr
            (fun w' g' hb h1 => same_src _ _ _ _ _ _ _ _ _ _ _ _ _ _ _ _ _ _ _ _ _ _ true _ (self8 hq) h1 (hs.later (Nat.le_refl _) hb))
        · exact walk_no_yes ck cl cs cv f0 f1 f2 f3 f4 cm b o c k l s a1 d0 d1 d2 d3 d4 m w hc (fun w' hb => read_yes b o c a0 a1 a2 a3 a4 a5 a6 a7 k l s d0 d1 d2 d3 d4 m w' (hs.later (Nat.le_refl _) hb) h0 h2 h3 hy hr hq) hr
            (fun w' g' hb h1 => same_src _ _ _ _ _ _ _ _ _ _ _ _ _ _ _ _ _ _ _ _ _ _ true _ (self8 hq) h1 (hs.later (Nat.le_refl _) hb))
      · exact walk_of ck cl cs cv f0 f1 f2 f3 f4 cm _ 8 c w (fun w' hb => read_other b o c a0 a1 a2 a3 a4 a5 a6 a7 k l s d0 d1 d2 d3 d4 m w' (hs.later (Nat.le_refl _) hb) h0 h2 h3 hy hr hq)
    · exact walk_of ck cl cs cv f0 f1 f2 f3 f4 cm _ 8 c w (fun w' hb => read_bad b o c a0 a1 a2 a3 a4 a5 a6 a7 k l s d0 d1 d2 d3 d4 m w' (hs.later (Nat.le_refl _) hb) h0 h2 h3 hy hr)

set_option maxRecDepth 100000 in
theorem lifted (os : Os) (started : os.Started) (H : Type) (enc : TypeId × Value → H) :
    ReturnsInHanded {} Try.checked os 5 .any (Rows.cardsBackSpec.pre6 enc Try.prog Try.f5 Rows.cardsBackRow.domain false) (Rows.cardsBackSpec.post enc Try.prog Try.f5 false true false false) := by
  refine returnsInHanded_of_change (C := Try.checked) own started (by kernel_rfl) Try.func5
    (ChangeSpec.witness6 (enc := enc) (C := Try.checked) false ⟨#[], #[.agg #[.int .i64 0, .int .i64 0, .int .i64 0, .int .u64 0, .int .i64 0, .int .i64 0, .int .i64 0, .int .i64 0, .int .i64 0, .int .i64 0], .slice none 0 0], []⟩ 8 (by kernel_rfl) (by kernel_rfl) (by kernel_rfl) (by kernel_rfl)) ?_
  intro W base args ds gs before hval0 hW hcnd _
  have hval : ∀ (j : Nat) t v, Try.f5.params[j]? = some t → args[j]? = some v → Value.okWide Try.prog W .any base t v := hval0
  have hW' := hW
  obtain ⟨p, q, hA0, hV, rfl, hfz, hnd⟩ := hW
  have hA : DataW.TrodAll enc Try.prog W 0 (fun _ => true) true Try.f5.params.toList args.toList ds p := hA0
  rw [Try.params5] at hA hval
  obtain ⟨v0, vs0, d0, ds0, p0, q0, hargs, rfl, rfl, h0, r0⟩ := trodAll_cons hA
  obtain ⟨v1, vs1, d1, ds1, p1, q1, rfl, rfl, rfl, h1, r1⟩ := trodAll_cons r0
  obtain ⟨rfl, rfl, rfl⟩ := trodAll_nil r1
  obtain rfl : args = #[v0, v1] := by cases args; simp_all
  obtain ⟨rfl, rfl⟩ := trodVars_none hV
  have k0 := h0
  have lt0 : ∀ x ∈ p0, x.block < W.heap.size := by obtain ⟨m, hm⟩ := k0; exact DataW.trod_lt m _ _ _ hm
  obtain ⟨k_0, l_0, s_0, ver_0, d0_0, d1_0, d2_0, d3_0, d4_0, m_0, rfl, bk_0, bl_0, bs_0, bver_0, bd0_0, bd1_0, bd2_0, bd3_0, bd4_0, bm_0⟩ := open_card (hval 0 25 v0 rfl rfl) h0
  have k1 := h1
  have lt1 : ∀ x ∈ p1, x.block < W.heap.size := by obtain ⟨m, hm⟩ := k1; exact DataW.trod_lt m _ _ _ hm
  obtain ⟨a1, len1, cap1, rfl, w1⟩ := open_words (hval 1 27 v1 rfl rfl) h1
  clear hA0 hval0
  refine (walk k_0 l_0 s_0 ver_0 d0_0 d1_0 d2_0 d3_0 d4_0 m_0 a1 len1 cap1 W bk_0 bl_0 bs_0 bver_0 bd0_0 bd1_0 bd2_0 bd3_0 bd4_0 bm_0 w1).mono fun e W' ⟨he, bel⟩ => ?_
  subst he
  exact ⟨_, rfl, _, _, _, [], _, [], hW', trodAll_mk1 (shut_bool Try.underlying4 _), (trodAll_cons_mk (Below.trod laidOut (by kernel_rfl) (of_decide_eq_true (by kernel_rfl)) k0 bel lt0) (trodAll_cons_mk (Below.trod laidOut (by kernel_rfl) (of_decide_eq_true (by kernel_rfl)) k1 bel lt1) trodAll_mk0)), rfl, bel.frame _, fun h => by cases h⟩

theorem over : Rows.cardsBackRow.holds Try.pinned (OpenSpec.ofChange Rows.cardsBackSpec) :=
  OpenClaim.holds_of_wide 5 Try.f5 rfl rfl rfl rfl rfl rfl rfl ⟨rfl, rfl, rfl, rfl, rfl⟩ rfl rfl rfl rfl rfl (by kernel_rfl) Try.func5 (by kernel_rfl)
    (of_decide_eq_true (by kernel_rfl)) (by unfold Func.isWrapper; first | (rw [if_pos (by decide +kernel)]; kernel_rfl) | (rw [if_neg (by decide +kernel)]; exact ⟨rfl, rfl⟩))
    (fun os started H enc _ => lifted os started H enc)

theorem proved : Rows.CardsBackSaid := over
#print axioms proved
end Go.Proofs.Ytechglhmdofcbaa.cardsBack
