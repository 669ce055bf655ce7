/- Contract of lay: the words of a card whose parts fit their fields. -/
import Derived.Test.YtomlbifplliakaaGreatCdWords
import Derived.Test.YtomlbifplliakaaGreatCdRight
namespace Go.Proofs.YtomlbifplliakaaGreat.Cd
open Go.RowKit

/-- All parts fit their fields. -/
def Fit (k l s d0 d1 d2 d3 d4 m : Int) : Prop := (0 ≤ k ∧ k ≤ 255) ∧ (0 ≤ l ∧ l ≤ 255) ∧ (0 ≤ s ∧ s ≤ 2688) ∧ Bk d0 d1 d2 d3 d4 m
theorem Rt.fit {k l s d0 d1 d2 d3 d4 m : Int} (h : Rt k l s d0 d1 d2 d3 d4 m) : Fit k l s d0 d1 d2 d3 d4 m := by
  unfold Rt No Fl at h
  unfold Fit
  rcases h with ⟨h0, h1, h2, ⟨h3, h4, h5, h6, h7⟩, h8⟩ | ⟨h0, h1, h2, h3⟩
  · subst h0 h1 h2 h3 h4 h5 h6 h7 h8
    unfold Bk
    omega
  · exact ⟨by omega, h1, h2, h3⟩

theorem put_to (x v r : Int) (a n : Nat) (p q : Int) (w : World) (hp : ((2 ^ a : Nat) : Int) = p) (hq : ((2 ^ n : Nat) : Int) = q) (h1 : 1 ≤ n) (h2 : a + n ≤ 64) (h : 0 ≤ x ∧ x < p ∧ 0 ≤ v ∧ v < q ∧ v * p + x = r) :
    Calls Tryz.prog 87 #[.int .u64 x, .int .i64 a, .int .i64 n, .int .i64 v] w fun e w' => e = .returned (.int .u64 r) ∧ w' = w := by
  obtain ⟨hx0, hx, hv0, hv, rfl⟩ := h
  exact put_any x v a n p q w hp hq hx0 hx h1 h2 hv0 hv

set_option maxHeartbeats 2000000 in
theorem lay_go (k l s v d0 d1 d2 d3 d4 m : Int) (x2 x3 y1 y2 y3 y4 z1 z2 : Int) (w : World) (h : Fit k l s d0 d1 d2 d3 d4 m)
    (e2 : x2 = l * 256 + k) (e3 : x3 = s * 16777216 + x2) (f1 : y1 = d0 + 1) (f2 : y2 = (d1 + 1) * 65536 + y1) (f3 : y3 = (d2 + 1) * 4294967296 + y2) (f4 : y4 = (d3 + 1) * 281474976710656 + y3) (g1 : z1 = d4 + 1) (g2 : z2 = (m + 1) * 65536 + z1) :
    Calls Tryz.prog 74 #[.agg #[.int .i64 k, .int .i64 l, .int .i64 s, .int .u64 v, .int .i64 d0, .int .i64 d1, .int .i64 d2, .int .i64 d3, .int .i64 d4, .int .i64 m]] w fun e w' => e = .returned (.agg #[.int .u64 x3, .int .u64 v, .int .u64 y4, .int .u64 z2, .int .u64 0, .int .u64 0, .int .u64 0, .int .u64 0]) ∧ Below w.heap.size w w' := by
  obtain ⟨i0, i1, i2, i3, i4, i5⟩ := index6 d0 d1 d2 d3 d4 m
  unfold Fit Bk at h
  have P1 : Hid (∀ w, Calls Tryz.prog 87 #[.int .u64 0, .int .i64 0, .int .i64 8, .int .i64 k] w fun e w' => e = .returned (.int .u64 k) ∧ w' = w) := fun w => put_to 0 k k 0 8 1 256 w rfl rfl (by omega) (by omega) (by omega)
  have P2 : Hid (∀ w, Calls Tryz.prog 87 #[.int .u64 k, .int .i64 8, .int .i64 16, .int .i64 l] w fun e w' => e = .returned (.int .u64 x2) ∧ w' = w) := fun w => put_to k l x2 8 16 256 65536 w rfl rfl (by omega) (by omega) (by omega)
  have P3 : Hid (∀ w, Calls Tryz.prog 87 #[.int .u64 x2, .int .i64 24, .int .i64 32, .int .i64 s] w fun e w' => e = .returned (.int .u64 x3) ∧ w' = w) := fun w => put_to x2 s x3 24 32 16777216 4294967296 w rfl rfl (by omega) (by omega) (by omega)
  have Q0 : Hid (∀ w, Calls Tryz.prog 87 #[.int .u64 0, .int .i64 0, .int .i64 16, .int .i64 (d0 + 1)] w fun e w' => e = .returned (.int .u64 y1) ∧ w' = w) := fun w => put_to 0 (d0 + 1) y1 0 16 1 65536 w rfl rfl (by omega) (by omega) (by omega)
  have Q1 : Hid (∀ w, Calls Tryz.prog 87 #[.int .u64 y1, .int .i64 16, .int .i64 16, .int .i64 (d1 + 1)] w fun e w' => e = .returned (.int .u64 y2) ∧ w' = w) := fun w => put_to y1 (d1 + 1) y2 16 16 65536 65536 w rfl rfl (by omega) (by omega) (by omega)
  have Q2 : Hid (∀ w, Calls Tryz.prog 87 #[.int .u64 y2, .int .i64 32, .int .i64 16, .int .i64 (d2 + 1)] w fun e w' => e = .returned (.int .u64 y3) ∧ w' = w) := fun w => put_to y2 (d2 + 1) y3 32 16 4294967296 65536 w rfl rfl (by omega) (by omega) (by omega)
  have Q3 : Hid (∀ w, Calls Tryz.prog 87 #[.int .u64 y3, .int .i64 48, .int .i64 16, .int .i64 (d3 + 1)] w fun e w' => e = .returned (.int .u64 y4) ∧ w' = w) := fun w => put_to y3 (d3 + 1) y4 48 16 281474976710656 65536 w rfl rfl (by omega) (by omega) (by omega)
  have Q4 : Hid (∀ w, Calls Tryz.prog 87 #[.int .u64 0, .int .i64 0, .int .i64 16, .int .i64 (d4 + 1)] w fun e w' => e = .returned (.int .u64 z1) ∧ w' = w) := fun w => put_to 0 (d4 + 1) z1 0 16 1 65536 w rfl rfl (by omega) (by omega) (by omega)
  have Q5 : Hid (∀ w, Calls Tryz.prog 87 #[.int .u64 z1, .int .i64 16, .int .i64 16, .int .i64 (m + 1)] w fun e w' => e = .returned (.int .u64 z2) ∧ w' = w) := fun w => put_to z1 (m + 1) z2 16 16 65536 65536 w rfl rfl (by omega) (by omega) (by omega)
  have b0 : -1 ≤ d0 ∧ d0 ≤ 95 := h.2.2.2.1
  have b1 : -1 ≤ d1 ∧ d1 ≤ 95 := h.2.2.2.2.1
  have b2 : -1 ≤ d2 ∧ d2 ≤ 95 := h.2.2.2.2.2.1
  have b3 : -1 ≤ d3 ∧ d3 ≤ 95 := h.2.2.2.2.2.2.1
  have b4 : -1 ≤ d4 ∧ d4 ≤ 95 := h.2.2.2.2.2.2.2.1
  have b5 : -1 ≤ m ∧ m ≤ 95 := h.2.2.2.2.2.2.2.2
  clear h e2 e3 f1 f2 f3 f4 g1 g2
  go_enter Tryz.func74, Tryz.ntmps74
  go_wp2_with fail
  refine Calls.mono (P1.out _) ?_
  rintro e w' ⟨rfl, rfl⟩
  go_wp2_with fail
  refine Calls.mono (P2.out _) ?_
  rintro e w' ⟨rfl, rfl⟩
  go_wp2_with fail
  refine Calls.mono (P3.out _) ?_
  rintro e w' ⟨rfl, rfl⟩
  go_wp2_with fail
  refine (blocks_eq k l s v d0 d1 d2 d3 d4 m _).mono ?_
  rintro e w1 ⟨rfl, rfl⟩
  go_wp2_with fail
  refine wp_loop_rounds 7 ?_
  rw [rounds_succ]
  go_wp2_with fail
  refine Calls.mono (Q0.out _) ?_
  rintro e w' ⟨rfl, rfl⟩
  go_wp2_with fail
  rw [rounds_succ]
  go_wp2_with fail
  refine Calls.mono (Q1.out _) ?_
  rintro e w' ⟨rfl, rfl⟩
  go_wp2_with fail
  rw [rounds_succ]
  go_wp2_with fail
  refine Calls.mono (Q2.out _) ?_
  rintro e w' ⟨rfl, rfl⟩
  go_wp2_with fail
  rw [rounds_succ]
  go_wp2_with fail
  refine Calls.mono (Q3.out _) ?_
  rintro e w' ⟨rfl, rfl⟩
  go_wp2_with fail
  rw [rounds_succ]
  go_wp2_with fail
  refine Calls.mono (Q4.out _) ?_
  rintro e w' ⟨rfl, rfl⟩
  go_wp2_with fail
  rw [rounds_succ]
  go_wp2_with fail
  refine Calls.mono (Q5.out _) ?_
  rintro e w' ⟨rfl, rfl⟩
  go_wp2_with fail
  rw [rounds_succ]
  go_wp2
  refine bodyPost_ret (v := .agg #[_, _, _, _, _, _, _, _]) (by simp [results, Tryz.results74, go_sem]) rfl ⟨rfl, ?_⟩
  exact ((((((((Below.refl _ _).alloc (Nat.le_refl _) _).alloc (by simp) _).alloc (by simp; omega) _).alloc (by simp; omega) _).alloc (by simp; omega) _).alloc (by simp; omega) _)).drew

/-- A card's first, third and fourth word. -/
def wd0 (k l s : Int) : Int := s * 16777216 + (l * 256 + k)
def wd2 (d0 d1 d2 d3 : Int) : Int := (d3 + 1) * 281474976710656 + ((d2 + 1) * 4294967296 + ((d1 + 1) * 65536 + (d0 + 1)))
def wd3 (d4 m : Int) : Int := (m + 1) * 65536 + (d4 + 1)
theorem lay_any (k l s v d0 d1 d2 d3 d4 m : Int) (w : World) (h : Rt k l s d0 d1 d2 d3 d4 m) :
    Calls Tryz.prog 74 #[.agg #[.int .i64 k, .int .i64 l, .int .i64 s, .int .u64 v, .int .i64 d0, .int .i64 d1, .int .i64 d2, .int .i64 d3, .int .i64 d4, .int .i64 m]] w fun e w' => e = .returned (.agg #[.int .u64 (wd0 k l s), .int .u64 v, .int .u64 (wd2 d0 d1 d2 d3), .int .u64 (wd3 d4 m), .int .u64 0, .int .u64 0, .int .u64 0, .int .u64 0]) ∧ Below w.heap.size w w' :=
  lay_go k l s v d0 d1 d2 d3 d4 m _ _ _ _ _ _ _ _ w h.fit rfl rfl rfl rfl rfl rfl rfl rfl
theorem wd_bd {k l s d0 d1 d2 d3 d4 m : Int} (h : Rt k l s d0 d1 d2 d3 d4 m) : (0 ≤ wd0 k l s ∧ wd0 k l s ≤ 18446744073709551615) ∧ (0 ≤ wd2 d0 d1 d2 d3 ∧ wd2 d0 d1 d2 d3 ≤ 18446744073709551615) ∧ (0 ≤ wd3 d4 m ∧ wd3 d4 m ≤ 18446744073709551615) := by
  have := h.fit
  unfold Fit Bk at this
  unfold wd0 wd2 wd3
  omega
end Go.Proofs.YtomlbifplliakaaGreat.Cd
