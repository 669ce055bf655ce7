/- Contracts of the document's own Same and Read, and of the fresh cards. -/
import Derived.Test.YtomlbifplliakaaGreatCdRefWrite
import Derived.Test.YtomlbifplliakaaGreatCdRead
namespace Go.Proofs.YtomlbifplliakaaGreat.Cd
open Go.RowKit

theorem below_drewN {B : Nat} {w0 w : World} (h : Below B w0 w) (n : Nat) : Below B w0 (w.drewN n) := ⟨h.os, h.tape, h.output, h.size, h.block⟩

set_option maxHeartbeats 1000000 in
theorem same_any (b1 o1 c1 b2 o2 c2 : Nat) (f g : Nat → Int) (B : Bool) (w : World) (hB : (∀ j, j < 8 → f j = g j) ↔ B = true)
    (h1 : ∀ j, j < 8 → w.cell? ⟨b1, o1 + j, none⟩ = some (.int .u64 (f j))) (h2 : ∀ j, j < 8 → w.cell? ⟨b2, o2 + j, none⟩ = some (.int .u64 (g j))) :
    Calls Tryz.prog 16 #[.slice (some ⟨b1, o1, none⟩) 8 c1, .slice (some ⟨b2, o2, none⟩) 8 c2] w fun e w' => e = .returned (.bool B) ∧ Below w.heap.size w w' := by
  have HB : Hid ((∀ j, j < 8 → f j = g j) ↔ B = true) := hB
  clear hB
  go_enter Tryz.func16, Tryz.ntmps16
  go_wp2
  go_loopw [5] (fun i wr => ∃ k m : Nat, k ≤ 8 ∧ i = .int .i64 k ∧ wr = w.drewN m ∧ Hid (∀ j, j < k → f j = g j)) (fun i _ => 8 - (intOf i).toNat)
  case atStart => exact ⟨0, 0, Nat.zero_le _, rfl, rfl, fun j hj => by omega⟩
  case round =>
    obtain ⟨k, m, hk, rfl, rfl, HK⟩ := hrel
    by_cases hlt : k < 8
    · have x1 := h1 k hlt
      have x2 := h2 k hlt
      have hb : (k : Int) < 8 := by omega
      clear h1 h2
      by_cases he : f k = g k
      · have he' : (f k != g k) = false := by rw [bne_eq_false_iff_eq]; exact he
        have HK' : Hid (∀ j, j < k + 1 → f j = g j) := fun j hj => by
          rcases (by omega : j < k ∨ j = k) with h | h
          · exact HK.out j h
          · rw [h]; exact he
        clear he
        go_wp2
        go_quiet (fail)
        go_wp2
        go_roundw
        case rel => exact ⟨k + 1, _, by omega, by go_num, rfl, HK'⟩
        case measure => simp [intOf]; omega
      · have he' : (f k != g k) = true := by rw [bne_iff_ne]; exact he
        have HF : Hid (false = B) := by
          cases B with
          | false => rfl
          | true => exact absurd (HB.out.2 rfl k hlt) he
        clear he
        go_wp2
        go_quiet (fail)
        go_wp2
        go_ret
        exact ⟨ret_bool HF.out, below_drewN (below_drewN (Below.refl _ _) _) _⟩
    · have HF : Hid (true = B) := (HB.out.1 fun j hj => HK.out j (by omega)).symm
      go_wp2
      go_ret
      exact ⟨ret_bool HF.out, below_drewN (Below.refl _ _) _⟩
theorem same_zero (a1 a2 : Option Addr) (c1 c2 : Nat) (w : World) :
    Calls Tryz.prog 16 #[.slice a1 0 c1, .slice a2 0 c2] w fun e w' => e = .returned (.bool true) ∧ Below w.heap.size w w' := by
  go_enter Tryz.func16, Tryz.ntmps16
  go_wp2
  go_loop [5] (fun i => i = .int .i64 0) (fun _ => 0)
  case atStart => rfl
  case round =>
    subst hrel
    go_wp2
    go_ret
    exact ⟨rfl, Below.refl _ _⟩

/-- Eight words as a function of their place. -/
def eightF (a0 a1 a2 a3 a4 a5 a6 a7 : Int) (j : Nat) : Int := match j with
  | 0 => a0 | 1 => a1 | 2 => a2 | 3 => a3 | 4 => a4 | 5 => a5 | 6 => a6 | _ => a7
theorem eight_all {p : Nat → Prop} (h0 : p 0) (h1 : p 1) (h2 : p 2) (h3 : p 3) (h4 : p 4) (h5 : p 5) (h6 : p 6) (h7 : p 7) : ∀ j, j < 8 → p j := by
  intro j hj
  match j, hj with
  | 0, _ => exact h0
  | 1, _ => exact h1
  | 2, _ => exact h2
  | 3, _ => exact h3
  | 4, _ => exact h4
  | 5, _ => exact h5
  | 6, _ => exact h6
  | 7, _ => exact h7
theorem Row8.src {w : World} {g : Nat} {a0 a1 a2 a3 a4 a5 a6 a7 : Int} (h : Row8 w g a0 a1 a2 a3 a4 a5 a6 a7) (hg : g < w.heap.size) : Src w g 0 a0 a1 a2 a3 a4 a5 a6 a7 := ⟨hg, h⟩
theorem Src.at {w : World} {b o : Nat} {a0 a1 a2 a3 a4 a5 a6 a7 : Int} (h : Src w b o a0 a1 a2 a3 a4 a5 a6 a7) : ∀ j, j < 8 → w.cell? ⟨b, o + j, none⟩ = some (.int .u64 (eightF a0 a1 a2 a3 a4 a5 a6 a7 j)) := by
  obtain ⟨_, h0, h1, h2, h3, h4, h5, h6, h7⟩ := h
  exact eight_all h0 h1 h2 h3 h4 h5 h6 h7
theorem same_src (b1 o1 c1 b2 o2 c2 : Nat) (a0 a1 a2 a3 a4 a5 a6 a7 e0 e1 e2 e3 e4 e5 e6 e7 : Int) (B : Bool) (w : World)
    (hB : (a0 = e0 ∧ a1 = e1 ∧ a2 = e2 ∧ a3 = e3 ∧ a4 = e4 ∧ a5 = e5 ∧ a6 = e6 ∧ a7 = e7) ↔ B = true) (h1 : Src w b1 o1 a0 a1 a2 a3 a4 a5 a6 a7) (h2 : Src w b2 o2 e0 e1 e2 e3 e4 e5 e6 e7) :
    Calls Tryz.prog 16 #[.slice (some ⟨b1, o1, none⟩) 8 c1, .slice (some ⟨b2, o2, none⟩) 8 c2] w fun e w' => e = .returned (.bool B) ∧ Below w.heap.size w w' :=
  same_any b1 o1 c1 b2 o2 c2 _ _ B w ⟨fun h => hB.1 ⟨h 0 (by omega), h 1 (by omega), h 2 (by omega), h 3 (by omega), h 4 (by omega), h 5 (by omega), h 6 (by omega), h 7 (by omega)⟩,
    fun h => by
      obtain ⟨q0, q1, q2, q3, q4, q5, q6, q7⟩ := hB.2 h
      exact eight_all q0 q1 q2 q3 q4 q5 q6 q7⟩ h1.at h2.at

theorem refRead_len (a : Option Addr) (n c : Nat) (w : World) (h : ¬ n = 8) :
    Calls Tryz.prog 59 #[.slice a n c] w fun e w' => e = .returned (.tuple #[.agg #[.int .i64 0, .int .i64 0, .int .i64 0, .int .u64 0, .int .i64 0, .int .i64 0, .int .i64 0, .int .i64 0, .int .i64 0, .int .i64 0], .int .i64 15]) ∧ Below w.heap.size w w' := by
  have h' : ((n : Int) != 8) = true := by rw [bne_iff_ne]; omega
  go_enter Tryz.func59, Tryz.ntmps59
  go_wp2
  refine bodyPost_ret (v := .tuple #[.agg #[_, _, _, _, _, _, _, _, _, _], _]) (by simp [results, Tryz.results59, go_sem]) rfl ⟨rfl, ?_⟩
  exact below_box0 _ _

theorem zero_box (w : World) : Zero (w.alloc (.cells #[.int .i64 0, .int .i64 0, .int .i64 0, .int .u64 0, .int .i64 0, .int .i64 0, .int .i64 0, .int .i64 0, .int .i64 0, .int .i64 0] 38)) w.heap.size := by
  unfold Zero
  show (w.heap.push _)[w.heap.size]? = _
  simp
/-- The parts of the words one behind the other. -/
theorem says_parts {a0 a2 a3 k l s d0 d1 d2 d3 d4 m : Int} (h : Says a0 a2 a3 k l s d0 d1 d2 d3 d4 m) : ∃ x1 g0 g1 g2 g3 g4 g5 x2 x3 y1 : Int,
    (0 ≤ a0 → 0 ≤ a2 → 0 ≤ a3 → (0 ≤ k ∧ k ≤ 255) ∧ (0 ≤ l ∧ l ≤ 65535) ∧ (0 ≤ s ∧ s ≤ 4294967295) ∧ (0 ≤ g0 ∧ g0 ≤ 65535) ∧ (0 ≤ g1 ∧ g1 ≤ 65535) ∧ (0 ≤ g2 ∧ g2 ≤ 65535) ∧ (0 ≤ g3 ∧ g3 ≤ 65535) ∧ (0 ≤ g4 ∧ g4 ≤ 65535) ∧ (0 ≤ g5 ∧ g5 ≤ 65535) ∧ 0 ≤ x1 ∧ 0 ≤ x2 ∧ 0 ≤ x3 ∧ 0 ≤ y1)
    ∧ a0 % 256 = k ∧ a0 / 256 % 65536 = l ∧ a0 / 16777216 % 4294967296 = s ∧ a2 % 65536 = g0 ∧ x1 % 65536 = g1 ∧ x2 % 65536 = g2 ∧ x3 % 65536 = g3 ∧ a3 % 65536 = g4 ∧ y1 % 65536 = g5
    ∧ a2 / 65536 = x1 ∧ x1 / 65536 = x2 ∧ x2 / 65536 = x3 ∧ a3 / 65536 = y1 ∧ g0 - 1 = d0 ∧ g1 - 1 = d1 ∧ g2 - 1 = d2 ∧ g3 - 1 = d3 ∧ g4 - 1 = d4 ∧ g5 - 1 = m := by
  unfold Says at h
  refine ⟨a2 / 65536, a2 % 65536, a2 / 65536 % 65536, a2 / 65536 / 65536 % 65536, a2 / 65536 / 65536 / 65536 % 65536, a3 % 65536, a3 / 65536 % 65536, a2 / 65536 / 65536, a2 / 65536 / 65536 / 65536, a3 / 65536, fun _ _ _ => ?_, ?_⟩
  · omega
  · omega

/-- Are the card's words these? -/
def SameW (k l s d0 d1 d2 d3 d4 m a0 a1 a2 a3 a4 a5 a6 a7 : Int) (B : Bool) : Prop := (wd0 k l s = a0 ∧ a1 = a1 ∧ wd2 d0 d1 d2 d3 = a2 ∧ wd3 d4 m = a3 ∧ 0 = a4 ∧ 0 = a5 ∧ 0 = a6 ∧ 0 = a7) ↔ B = true

set_option maxHeartbeats 2000000 in
theorem refRead_bad (b o c : Nat) (a0 a1 a2 a3 a4 a5 a6 a7 k l s d0 d1 d2 d3 d4 m : Int) (w : World) (hs : Src w b o a0 a1 a2 a3 a4 a5 a6 a7)
    (h0 : 0 ≤ a0 ∧ a0 ≤ 18446744073709551615) (h2 : 0 ≤ a2 ∧ a2 ≤ 18446744073709551615) (h3 : 0 ≤ a3 ∧ a3 ≤ 18446744073709551615) (h : Says a0 a2 a3 k l s d0 d1 d2 d3 d4 m) (hr : ¬ Rt k l s d0 d1 d2 d3 d4 m) :
    Calls Tryz.prog 59 #[.slice (some ⟨b, o, none⟩) 8 c] w fun e w' => e = .returned (.tuple #[.agg #[.int .i64 0, .int .i64 0, .int .i64 0, .int .u64 0, .int .i64 0, .int .i64 0, .int .i64 0, .int .i64 0, .int .i64 0, .int .i64 0], .int .i64 15]) ∧ Below w.heap.size w w' := by
  have HR : Hid (¬ Rt k l s d0 d1 d2 d3 d4 m) := hr
  have HS : Hid (Src w b o a0 a1 a2 a3 a4 a5 a6 a7) := hs
  have HY : Hid (Says a0 a2 a3 k l s d0 d1 d2 d3 d4 m) := h
  clear hr hs h
  obtain ⟨h01, h02⟩ := h0
  obtain ⟨h21, h22⟩ := h2
  obtain ⟨h31, h32⟩ := h3
  go_enter Tryz.func59, Tryz.ntmps59
  obtain ⟨u0, u1, u2, u3, u4, u5, u6, u7, u8⟩ := HS.out
  go_wp2_with fail
  refine (refNone_any a1 _).mono ?_
  rintro e w1 ⟨rfl, bel⟩
  have B1 : Hid (Below w.heap.size w w1) := below_box bel
  have Z1 : Hid (Zero w1 w.heap.size) := (zero_box w).later (by simp) bel
  have hw1 : w.heap.size < w1.heap.size := by have := bel.size; rw [World.size_alloc] at this; omega
  obtain ⟨hb1, u1, u2, u3, u4, u5, u6, u7, u8⟩ := HS.out.later (Nat.le_refl _) B1.out
  clear bel u0
  obtain ⟨x1, g0, g1, g2, g3, g4, g5, x2, x3, y1, HG, t0, t1, t2, r0, r1, r2, r3, r4, r5, v1, v2, v3, v4, e0, e1, e2, e3, e4, e5⟩ := says_parts HY.out
  obtain ⟨⟨bk0, bk1⟩, ⟨bl0, bl1⟩, ⟨bs0, bs1⟩, ⟨bg0, bg0'⟩, ⟨bg1, bg1'⟩, ⟨bg2, bg2'⟩, ⟨bg3, bg3'⟩, ⟨bg4, bg4'⟩, ⟨bg5, bg5'⟩, bx1, bx2, bx3, by1⟩ := HG h01 h21 h31
  clear HG
  go_wp2_with fail
  refine wp_loop_rounds 5 ?_
  rw [rounds_succ]
  go_wp2_with fail
  rw [rounds_succ]
  go_wp2_with fail
  rw [rounds_succ]
  go_wp2_with fail
  rw [rounds_succ]
  go_wp2_with fail
  rw [rounds_succ]
  go_wp2_with fail
  obtain ⟨Y, hY, YS, YE, YC⟩ := new_card w1 k l s a1 d0 d1 d2 d3 d4 m
  rw [hY]
  clear hY t0 t1 t2 r0 r1 r2 r3 r4 r5 v1 v2 v3 v4 e0 e1 e2 e3 e4 e5 u1 u2 u3 u4 u5 u6 u7 u8
  refine (refWrite_no k l s a1 d0 d1 d2 d3 d4 m _ HR.out).mono ?_
  rintro e w2 ⟨rfl, bel2⟩
  have BW := YE.out _ bel2
  obtain ⟨z0, z1, z2, z3, z4, z5, z6, z7, z8, z9⟩ := (Z1.out.later hw1 BW).ten
  have fz := (Z1.out.later hw1 BW).frozen
  have BF : Hid (Below w.heap.size w w2) := below_next B1.out BW (Nat.le_refl _)
  go_wp2
  refine bodyPost_ret (v := .tuple #[.agg #[_, _, _, _, _, _, _, _, _, _], _]) (by simp [results, Tryz.results59, go_sem, z0, z1, z2, z3, z4, z5, z6, z7, z8, z9]) rfl ⟨rfl, ?_⟩
  exact (((((((((BF.out.setCell (p := ⟨w.heap.size, 0, none⟩) (Nat.le_refl _) _).setCell (p := ⟨w.heap.size, 1, none⟩) (Nat.le_refl _) _).setCell (p := ⟨w.heap.size, 2, none⟩) (Nat.le_refl _) _).setCell (p := ⟨w.heap.size, 3, none⟩) (Nat.le_refl _) _).setCell (p := ⟨w.heap.size, 4, none⟩) (Nat.le_refl _) _).setCell (p := ⟨w.heap.size, 5, none⟩) (Nat.le_refl _) _).setCell (p := ⟨w.heap.size, 6, none⟩) (Nat.le_refl _) _).setCell (p := ⟨w.heap.size, 7, none⟩) (Nat.le_refl _) _).setCell (p := ⟨w.heap.size, 8, none⟩) (Nat.le_refl _) _).setCell (p := ⟨w.heap.size, 9, none⟩) (Nat.le_refl _) _
set_option maxHeartbeats 2000000 in
theorem refRead_other (b o c : Nat) (a0 a1 a2 a3 a4 a5 a6 a7 k l s d0 d1 d2 d3 d4 m : Int) (w : World) (hs : Src w b o a0 a1 a2 a3 a4 a5 a6 a7)
    (h0 : 0 ≤ a0 ∧ a0 ≤ 18446744073709551615) (h2 : 0 ≤ a2 ∧ a2 ≤ 18446744073709551615) (h3 : 0 ≤ a3 ∧ a3 ≤ 18446744073709551615) (h : Says a0 a2 a3 k l s d0 d1 d2 d3 d4 m) (hr : Rt k l s d0 d1 d2 d3 d4 m) (hq : ¬ (wd0 k l s = a0 ∧ wd2 d0 d1 d2 d3 = a2 ∧ wd3 d4 m = a3 ∧ 0 = a4 ∧ 0 = a5 ∧ 0 = a6 ∧ 0 = a7)) :
    Calls Tryz.prog 59 #[.slice (some ⟨b, o, none⟩) 8 c] w fun e w' => e = .returned (.tuple #[.agg #[.int .i64 0, .int .i64 0, .int .i64 0, .int .u64 0, .int .i64 0, .int .i64 0, .int .i64 0, .int .i64 0, .int .i64 0, .int .i64 0], .int .i64 15]) ∧ Below w.heap.size w w' := by
  have HR : Hid (Rt k l s d0 d1 d2 d3 d4 m) := hr
  have HQ : Hid (SameW k l s d0 d1 d2 d3 d4 m a0 a1 a2 a3 a4 a5 a6 a7 false) := ⟨fun hn => absurd ⟨hn.1, hn.2.2⟩ hq, fun hf => by cases hf⟩
  clear hq
  have HS : Hid (Src w b o a0 a1 a2 a3 a4 a5 a6 a7) := hs
  have HY : Hid (Says a0 a2 a3 k l s d0 d1 d2 d3 d4 m) := h
  clear hr hs h
  obtain ⟨h01, h02⟩ := h0
  obtain ⟨h21, h22⟩ := h2
  obtain ⟨h31, h32⟩ := h3
  go_enter Tryz.func59, Tryz.ntmps59
  obtain ⟨u0, u1, u2, u3, u4, u5, u6, u7, u8⟩ := HS.out
  go_wp2_with fail
  refine (refNone_any a1 _).mono ?_
  rintro e w1 ⟨rfl, bel⟩
  have B1 : Hid (Below w.heap.size w w1) := below_box bel
  have Z1 : Hid (Zero w1 w.heap.size) := (zero_box w).later (by simp) bel
  have hw1 : w.heap.size < w1.heap.size := by have := bel.size; rw [World.size_alloc] at this; omega
  obtain ⟨hb1, u1, u2, u3, u4, u5, u6, u7, u8⟩ := HS.out.later (Nat.le_refl _) B1.out
  clear bel u0
  obtain ⟨x1, g0, g1, g2, g3, g4, g5, x2, x3, y1, HG, t0, t1, t2, r0, r1, r2, r3, r4, r5, v1, v2, v3, v4, e0, e1, e2, e3, e4, e5⟩ := says_parts HY.out
  obtain ⟨⟨bk0, bk1⟩, ⟨bl0, bl1⟩, ⟨bs0, bs1⟩, ⟨bg0, bg0'⟩, ⟨bg1, bg1'⟩, ⟨bg2, bg2'⟩, ⟨bg3, bg3'⟩, ⟨bg4, bg4'⟩, ⟨bg5, bg5'⟩, bx1, bx2, bx3, by1⟩ := HG h01 h21 h31
  clear HG
  go_wp2_with fail
  refine wp_loop_rounds 5 ?_
  rw [rounds_succ]
  go_wp2_with fail
  rw [rounds_succ]
  go_wp2_with fail
  rw [rounds_succ]
  go_wp2_with fail
  rw [rounds_succ]
  go_wp2_with fail
  rw [rounds_succ]
  go_wp2_with fail
  obtain ⟨Y, hY, YS, YE, YC⟩ := new_card w1 k l s a1 d0 d1 d2 d3 d4 m
  rw [hY]
  clear hY t0 t1 t2 r0 r1 r2 r3 r4 r5 v1 v2 v3 v4 e0 e1 e2 e3 e4 e5 u1 u2 u3 u4 u5 u6 u7 u8
  refine (refWrite_yes k l s a1 d0 d1 d2 d3 d4 m _ HR.out).mono ?_
  rintro e w2 ⟨g, rfl, hg1, hg2, hrow, bel2⟩
  have S1 : Hid (Src w2 g 0 (wd0 k l s) a1 (wd2 d0 d1 d2 d3) (wd3 d4 m) 0 0 0 0) := hrow.src hg2
  have BW2 : Hid (Below w1.heap.size w1 w2) := YE.out _ bel2
  have BL : Hid (Below Y.heap.size Y w2) := bel2
  have S2 : Hid (Src w2 b o a0 a1 a2 a3 a4 a5 a6 a7) := (HS.out.later (Nat.le_refl _) B1.out).later (Nat.le_refl _) BW2.out
  clear hrow hg1 hg2 bel2
  go_wp2_with fail
  refine (same_src _ _ _ _ _ _ _ _ _ _ _ _ _ _ _ _ _ _ _ _ _ _ false _ HQ.out S1.out S2.out).mono ?_
  rintro e w3 ⟨rfl, hb3⟩
  have BW := below_next BW2.out hb3 (Nat.le_refl _)
  obtain ⟨c0, c1, c2, c3, c4, c5, c6, c7, c8, c9⟩ := YC.out _ (below_next BL.out hb3 (Nat.le_refl _))
  clear hb3
  obtain ⟨z0, z1, z2, z3, z4, z5, z6, z7, z8, z9⟩ := (Z1.out.later hw1 BW).ten
  have fz := (Z1.out.later hw1 BW).frozen
  have BF : Hid (Below w.heap.size w w3) := below_next B1.out BW (Nat.le_refl _)
  go_wp2
  refine bodyPost_ret (v := .tuple #[.agg #[_, _, _, _, _, _, _, _, _, _], _]) (by simp [results, Tryz.results59, go_sem, z0, z1, z2, z3, z4, z5, z6, z7, z8, z9]) rfl ⟨rfl, ?_⟩
  exact (((((((((BF.out.setCell (p := ⟨w.heap.size, 0, none⟩) (Nat.le_refl _) _).setCell (p := ⟨w.heap.size, 1, none⟩) (Nat.le_refl _) _).setCell (p := ⟨w.heap.size, 2, none⟩) (Nat.le_refl _) _).setCell (p := ⟨w.heap.size, 3, none⟩) (Nat.le_refl _) _).setCell (p := ⟨w.heap.size, 4, none⟩) (Nat.le_refl _) _).setCell (p := ⟨w.heap.size, 5, none⟩) (Nat.le_refl _) _).setCell (p := ⟨w.heap.size, 6, none⟩) (Nat.le_refl _) _).setCell (p := ⟨w.heap.size, 7, none⟩) (Nat.le_refl _) _).setCell (p := ⟨w.heap.size, 8, none⟩) (Nat.le_refl _) _).setCell (p := ⟨w.heap.size, 9, none⟩) (Nat.le_refl _) _
set_option maxHeartbeats 2000000 in
theorem refRead_yes (b o c : Nat) (a0 a1 a2 a3 a4 a5 a6 a7 k l s d0 d1 d2 d3 d4 m : Int) (w : World) (hs : Src w b o a0 a1 a2 a3 a4 a5 a6 a7)
    (h0 : 0 ≤ a0 ∧ a0 ≤ 18446744073709551615) (h2 : 0 ≤ a2 ∧ a2 ≤ 18446744073709551615) (h3 : 0 ≤ a3 ∧ a3 ≤ 18446744073709551615) (h : Says a0 a2 a3 k l s d0 d1 d2 d3 d4 m) (hr : Rt k l s d0 d1 d2 d3 d4 m) (hq : (wd0 k l s = a0 ∧ wd2 d0 d1 d2 d3 = a2 ∧ wd3 d4 m = a3 ∧ 0 = a4 ∧ 0 = a5 ∧ 0 = a6 ∧ 0 = a7)) :
    Calls Tryz.prog 59 #[.slice (some ⟨b, o, none⟩) 8 c] w fun e w' => e = .returned (.tuple #[.agg #[.int .i64 k, .int .i64 l, .int .i64 s, .int .u64 a1, .int .i64 d0, .int .i64 d1, .int .i64 d2, .int .i64 d3, .int .i64 d4, .int .i64 m], .int .i64 0]) ∧ Below w.heap.size w w' := by
  have HR : Hid (Rt k l s d0 d1 d2 d3 d4 m) := hr
  have HQ : Hid (SameW k l s d0 d1 d2 d3 d4 m a0 a1 a2 a3 a4 a5 a6 a7 true) := ⟨fun _ => rfl, fun _ => ⟨hq.1, rfl, hq.2⟩⟩
  clear hq
  have HS : Hid (Src w b o a0 a1 a2 a3 a4 a5 a6 a7) := hs
  have HY : Hid (Says a0 a2 a3 k l s d0 d1 d2 d3 d4 m) := h
  clear hr hs h
  obtain ⟨h01, h02⟩ := h0
  obtain ⟨h21, h22⟩ := h2
  obtain ⟨h31, h32⟩ := h3
  go_enter Tryz.func59, Tryz.ntmps59
  obtain ⟨u0, u1, u2, u3, u4, u5, u6, u7, u8⟩ := HS.out
  go_wp2_with fail
  refine (refNone_any a1 _).mono ?_
  rintro e w1 ⟨rfl, bel⟩
  have B1 : Hid (Below w.heap.size w w1) := below_box bel
  have Z1 : Hid (Zero w1 w.heap.size) := (zero_box w).later (by simp) bel
  have hw1 : w.heap.size < w1.heap.size := by have := bel.size; rw [World.size_alloc] at this; omega
  obtain ⟨hb1, u1, u2, u3, u4, u5, u6, u7, u8⟩ := HS.out.later (Nat.le_refl _) B1.out
  clear bel u0
  obtain ⟨x1, g0, g1, g2, g3, g4, g5, x2, x3, y1, HG, t0, t1, t2, r0, r1, r2, r3, r4, r5, v1, v2, v3, v4, e0, e1, e2, e3, e4, e5⟩ := says_parts HY.out
  obtain ⟨⟨bk0, bk1⟩, ⟨bl0, bl1⟩, ⟨bs0, bs1⟩, ⟨bg0, bg0'⟩, ⟨bg1, bg1'⟩, ⟨bg2, bg2'⟩, ⟨bg3, bg3'⟩, ⟨bg4, bg4'⟩, ⟨bg5, bg5'⟩, bx1, bx2, bx3, by1⟩ := HG h01 h21 h31
  clear HG
  go_wp2_with fail
  refine wp_loop_rounds 5 ?_
  rw [rounds_succ]
  go_wp2_with fail
  rw [rounds_succ]
  go_wp2_with fail
  rw [rounds_succ]
  go_wp2_with fail
  rw [rounds_succ]
  go_wp2_with fail
  rw [rounds_succ]
  go_wp2_with fail
  obtain ⟨Y, hY, YS, YE, YC⟩ := new_card w1 k l s a1 d0 d1 d2 d3 d4 m
  rw [hY]
  clear hY t0 t1 t2 r0 r1 r2 r3 r4 r5 v1 v2 v3 v4 e0 e1 e2 e3 e4 e5 u1 u2 u3 u4 u5 u6 u7 u8
  refine (refWrite_yes k l s a1 d0 d1 d2 d3 d4 m _ HR.out).mono ?_
  rintro e w2 ⟨g, rfl, hg1, hg2, hrow, bel2⟩
  have S1 : Hid (Src w2 g 0 (wd0 k l s) a1 (wd2 d0 d1 d2 d3) (wd3 d4 m) 0 0 0 0) := hrow.src hg2
  have BW2 : Hid (Below w1.heap.size w1 w2) := YE.out _ bel2
  have BL : Hid (Below Y.heap.size Y w2) := bel2
  have S2 : Hid (Src w2 b o a0 a1 a2 a3 a4 a5 a6 a7) := (HS.out.later (Nat.le_refl _) B1.out).later (Nat.le_refl _) BW2.out
  clear hrow hg1 hg2 bel2
  go_wp2_with fail
  refine (same_src _ _ _ _ _ _ _ _ _ _ _ _ _ _ _ _ _ _ _ _ _ _ true _ HQ.out S1.out S2.out).mono ?_
  rintro e w3 ⟨rfl, hb3⟩
  have BW := below_next BW2.out hb3 (Nat.le_refl _)
  obtain ⟨c0, c1, c2, c3, c4, c5, c6, c7, c8, c9⟩ := YC.out _ (below_next BL.out hb3 (Nat.le_refl _))
  clear hb3
  obtain ⟨z0, z1, z2, z3, z4, z5, z6, z7, z8, z9⟩ := (Z1.out.later hw1 BW).ten
  have fz := (Z1.out.later hw1 BW).frozen
  have BF : Hid (Below w.heap.size w w3) := below_next B1.out BW (Nat.le_refl _)
  go_wp2
  refine bodyPost_ret (v := .tuple #[.agg #[_, _, _, _, _, _, _, _, _, _], _]) (by simp [results, Tryz.results59, go_sem, z0, z1, z2, z3, z4, z5, z6, z7, z8, z9]) rfl ⟨rfl, ?_⟩
  exact (((((((((BF.out.setCell (p := ⟨w.heap.size, 0, none⟩) (Nat.le_refl _) _).setCell (p := ⟨w.heap.size, 1, none⟩) (Nat.le_refl _) _).setCell (p := ⟨w.heap.size, 2, none⟩) (Nat.le_refl _) _).setCell (p := ⟨w.heap.size, 3, none⟩) (Nat.le_refl _) _).setCell (p := ⟨w.heap.size, 4, none⟩) (Nat.le_refl _) _).setCell (p := ⟨w.heap.size, 5, none⟩) (Nat.le_refl _) _).setCell (p := ⟨w.heap.size, 6, none⟩) (Nat.le_refl _) _).setCell (p := ⟨w.heap.size, 7, none⟩) (Nat.le_refl _) _).setCell (p := ⟨w.heap.size, 8, none⟩) (Nat.le_refl _) _).setCell (p := ⟨w.heap.size, 9, none⟩) (Nat.le_refl _) _
end Go.Proofs.YtomlbifplliakaaGreat.Cd
