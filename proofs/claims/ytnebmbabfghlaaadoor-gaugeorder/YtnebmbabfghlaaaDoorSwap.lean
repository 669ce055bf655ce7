/- A row of floats of the call's own, told by which place of the first row each holds; contracts of swapRange and rotate. -/
import Derived.Test.YtnebmbabfghlaaaDoorReads
import Derived.Test.YtnebmbabfghlaaaDoorSortMath
import Derived.Deep.LoopGhost
namespace Go.Proofs.YtnebmbabfghlaaaDoor
open Go.RowKit

/-- The row whose place i holds g (s i). -/
def gRow (g s : Nat → Nat) (n : Nat) : List Value := (List.range n).map fun i => Value.float .f64 (g (s i))
theorem gRow_len (g s : Nat → Nat) (n : Nat) : (gRow g s n).length = n := by simp [gRow]
theorem gRow_at (g s : Nat → Nat) (n j : Nat) (h : j < n) : (gRow g s n)[j]? = some (.float .f64 (g (s j))) := by simp [gRow, h]
theorem gRow_swap (g s : Nat → Nat) (n i j : Nat) (hj : j < n) : ((gRow g s n).set i (.float .f64 (g (s j)))).set j (.float .f64 (g (s i))) = gRow g (sw s j i) n := by
  apply List.ext_getElem?
  intro x
  by_cases hx : x < n
  · rw [gRow_at g _ n x hx]
    by_cases e1 : x = j
    · subst e1
      rw [List.getElem?_set_self (by rw [List.length_set, gRow_len]; exact hx)]
      simp [sw]
    · rw [List.getElem?_set_ne (Ne.symm e1)]
      by_cases e2 : x = i
      · subst e2
        rw [List.getElem?_set_self (by rw [gRow_len]; exact hx)]
        simp [sw, e1]
      · rw [List.getElem?_set_ne (Ne.symm e2), gRow_at g s n x hx]
        simp [sw, e1, e2]
  · rw [List.getElem?_eq_none (by rw [List.length_set, List.length_set, gRow_len]; omega), List.getElem?_eq_none (by rw [gRow_len]; omega)]
theorem sw_comm (s : Nat → Nat) (i j : Nat) : sw s i j = sw s j i := by
  funext x; unfold sw
  by_cases e1 : x = i
  · by_cases e2 : x = j
    · rw [if_pos e1, if_pos e2, ← e1, ← e2]
    · rw [if_pos e1, if_neg e2, if_pos e1]
  · by_cases e2 : x = j
    · rw [if_neg e1, if_pos e2, if_pos e2]
    · rw [if_neg e1, if_neg e2, if_neg e2, if_neg e1]

/-- Block B is the row. -/
def Own (w : World) (base B cap n : Nat) (g s : Nat → Nat) : Prop := w.ownsRow base 23 1 (.slice (some ⟨B, 0, none⟩) n cap) n (gRow g s n)
theorem Own.cell {w : World} {base B cap n : Nat} {g s : Nat → Nat} (h : Own w base B cap n g s) {i : Nat} (hi : i < n) : w.cell? ⟨B, i, none⟩ = some (.float .f64 (g (s i))) := by
  have h' : w.ownsRow base 23 1 (.slice (some ⟨B, 0, none⟩) n cap) n (gRow g s n) := h
  rw [h'.cellAt i (by omega), gRow_at _ _ _ _ hi]
theorem Own.frozen {w : World} {base B cap n : Nat} {g s : Nat → Nat} (h : Own w base B cap n g s) (i : Nat) : w.frozen? ⟨B, i, none⟩ = false := World.ownsRow.frozenAt h i
theorem Own.lt {w : World} {base B cap n : Nat} {g s : Nat → Nat} (h : Own w base B cap n g s) : base ≤ B ∧ B < w.heap.size := World.ownsRow.lt h B rfl
theorem Own.drewN {w : World} {base B cap n : Nat} {g s : Nat → Nat} (h : Own w base B cap n g s) (q : Nat) : Own (w.drewN q) base B cap n g s := h
theorem Own.swap {w : World} {base B cap n : Nat} {g s : Nat → Nat} (h : Own w base B cap n g s) (i j : Nat) (hj : j < n) :
    Own ((w.setCell ⟨B, i, none⟩ (.float .f64 (g (s j)))).setCell ⟨B, j, none⟩ (.float .f64 (g (s i)))) base B cap n g (sw s i j) := by
  unfold Own
  rw [sw_comm, ← gRow_swap g s n i j hj]
  exact (World.ownsRow.stored (World.ownsRow.stored h i _).1 j _).1

/-- A store of a float (the library's set has those of the other kinds). -/
theorem run_store_float {P : Program} (w : World) (a : Addr) (x : Nat) (m : Mode) : (store a (.float .f64 x) m).run P w = stored P w a (.float .f64 x) m := run_store P w a _ m rfl
attribute [local go_sem] run_store_float

/-- The comparison handed on: Compare. -/
abbrev cmpV : Value := .func (.func 15) #[] #[]

set_option maxHeartbeats 2000000 in
theorem swapRange_any (w : World) (base B cap n a b c : Nat) (g s : Nat → Nat) (h : Own w base B cap n g s) (hn : n ≤ 100) (hab : a + c ≤ b) (hbn : b + c ≤ n) :
    Calls Tryd.prog 76 #[.slice (some ⟨B, 0, none⟩) n cap, .int .i64 a, .int .i64 b, .int .i64 c, cmpV] w fun e w' => e = .returned (.tuple #[]) ∧ Own w' base B cap n g (swR s a b c) ∧ Below base w w' := by
  have H : Hid (Own w base B cap n g s) := h
  clear h
  go_enter Tryd.func76, Tryd.ntmps76
  go_wp2
  go_loopg [10] c (fun q i wr => ∃ k : Nat, k + q = c ∧ i = .int .i64 k ∧ Own wr base B cap n g (swR s a b k) ∧ Below base w wr)
  case atStart => exact ⟨0, by omega, rfl, by rw [swR_zero]; exact H.out, Below.refl _ _⟩
  case round =>
    obtain ⟨k, hk, rfl, ho, hb⟩ := hrel
    clear H
    cases gk with
    | zero =>
      obtain rfl : k = c := by omega
      go_wp2
      go_end0
      exact ⟨rfl, ho, hb⟩
    | succ q =>
      have hlt : (k : Int) < (c : Int) := by omega
      have ci := ho.cell (i := a + k) (by omega)
      have cj := ho.cell (i := b + k) (by omega)
      have fi := ho.frozen (a + k)
      have fj := ho.frozen (b + k)
      have HO : Hid (Own wr base B cap n g (swR s a b k)) := ho
      clear ho
      have e1 : (a : Int) + (k : Int) = ((a + k : Nat) : Int) := by omega
      have e2 : (b : Int) + (k : Int) = ((b + k : Nat) : Int) := by omega
      have HS : Hid (sw (swR s a b k) (a + k) (b + k) = swR s a b (k + 1)) := swR_step s a b k (by omega)
      have l1 : ((a + k : Nat) : Int) < (n : Int) := by omega
      have l2 : ((b + k : Nat) : Int) < (n : Int) := by omega
      generalize hI : a + k = I at *
      generalize hJ : b + k = J at *
      generalize swR s a b k = t at *
      have hne : ¬ I = J := by omega
      have hne2 : ¬ J = I := by omega
      clear hI hJ
      go_wp2
      go_region
      all_goals (try go_wp2)
      go_roundg q
      case measure => omega
      case rel => exact ⟨k + 1, by omega, by go_num, by rw [← HS.out]; exact HO.out.swap I J (by omega), ((hb.setCell HO.out.lt.1 _).setCell HO.out.lt.1 _).drew⟩

set_option maxHeartbeats 2000000 in
theorem rotate_any (w : World) (base B cap n a m b : Nat) (g s : Nat → Nat) (h : Own w base B cap n g s) (hn : n ≤ 100) (ham : a < m) (hmb : m < b) (hbn : b ≤ n) :
    Calls Tryd.prog 60 #[.slice (some ⟨B, 0, none⟩) n cap, .int .i64 a, .int .i64 m, .int .i64 b, cmpV] w fun e w' => e = .returned (.tuple #[]) ∧ Own w' base B cap n g (rot s a m b) ∧ Below base w w' := by
  have H : Hid (Own w base B cap n g s) := h
  clear h
  go_enter Tryd.func60, Tryd.ntmps60
  go_wp2
  go_loopg [10, 11] (b - a) (fun q x y wr => ∃ (i j : Nat) (t : Nat → Nat), i + j = q ∧ 0 < i ∧ 0 < j ∧ i ≤ m - a ∧ j ≤ b - m ∧ x = .int .i64 i ∧ y = .int .i64 j ∧ Own wr base B cap n g t ∧ Below base w wr ∧ Aside (rot t (m - i) m (m + j) = rot s a m b))
  case atStart => exact ⟨m - a, b - m, s, by omega, by omega, by omega, by omega, by omega, by congr 1; omega, by congr 1; omega, H.out, Below.refl _ _, by show _ = _; congr 1 <;> omega⟩
  case round =>
    obtain ⟨i, j, t, hq, hi, hj, him, hjb, rfl, rfl, ho, hb, hr⟩ := hrel
    have HO : Hid (Own wr base B cap n g t) := ho
    clear H ho
    rcases Nat.lt_trichotomy i j with hij | hij | hij
    · have t1 : ((i : Int) != (j : Int)) = true := by simp; omega
      have t2 : decide ((i : Int) > (j : Int)) = false := by simp; omega
      have t3 : ¬ (j : Int) < (i : Int) := by omega
      have e1 : (m : Int) - (i : Int) = ((m - i : Nat) : Int) := by omega
      have e2 : (m : Int) + (j : Int) - (i : Int) = ((m + j - i : Nat) : Int) := by omega
      have e3 : (j : Int) - (i : Int) = ((j - i : Nat) : Int) := by omega
      have HR := rot_less t m i j hij (by omega)
      have HRR : Hid (rot (swR t (m - i) (m + j - i) i) (m - i) m (m + (j - i)) = rot s a m b) := by show _ = _; rw [HR]; exact hr.out
      clear HR hr
      go_wp2_with fail
      refine (swapRange_any wr base B cap n (m - i) (m + j - i) i g t HO.out hn (by omega) (by omega)).mono ?_
      rintro e w1 ⟨rfl, ho1, hb1⟩
      have HO1 : Hid (Own w1 base B cap n g (swR t (m - i) (m + j - i) i)) := ho1
      clear ho1
      go_wp2
      go_roundg (i + (j - i))
      case measure => omega
      case rel => exact ⟨i, j - i, _, rfl, by omega, by omega, by omega, by omega, rfl, rfl, HO1.out, hb.trans hb1, HRR.out⟩
    · subst hij
      have e1 : (m : Int) - (i : Int) = ((m - i : Nat) : Int) := by omega
      have HRR : Hid (swR t (m - i) m i = rot s a m b) := by show _ = _; rw [rot_same t m i (by omega)]; exact hr.out
      clear hr
      go_wp2_with fail
      refine (swapRange_any wr base B cap n (m - i) m i g t HO.out hn (by omega) (by omega)).mono ?_
      rintro e w1 ⟨rfl, ho1, hb1⟩
      rw [HRR.out] at ho1
      have HO1 : Hid (Own w1 base B cap n g (rot s a m b)) := ho1
      clear ho1
      go_wp2
      go_end0
      exact ⟨rfl, HO1.out, hb.trans hb1⟩
    · have t1 : ((i : Int) != (j : Int)) = true := by simp; omega
      have t3 : (j : Int) < (i : Int) := by omega
      have e1 : (m : Int) - (i : Int) = ((m - i : Nat) : Int) := by omega
      have e3 : (i : Int) - (j : Int) = ((i - j : Nat) : Int) := by omega
      have HR := rot_more t m i j hij (by omega)
      have HRR : Hid (rot (swR t (m - i) m j) (m - (i - j)) m (m + j) = rot s a m b) := by show _ = _; rw [HR]; exact hr.out
      clear HR hr
      go_wp2_with fail
      refine (swapRange_any wr base B cap n (m - i) m j g t HO.out hn (by omega) (by omega)).mono ?_
      rintro e w1 ⟨rfl, ho1, hb1⟩
      have HO1 : Hid (Own w1 base B cap n g (swR t (m - i) m j)) := ho1
      clear ho1
      go_wp2
      go_roundg ((i - j) + j)
      case measure => omega
      case rel => exact ⟨i - j, j, _, rfl, by omega, by omega, by omega, by omega, rfl, rfl, HO1.out, hb.trans hb1, HRR.out⟩
end Go.Proofs.YtnebmbabfghlaaaDoor
