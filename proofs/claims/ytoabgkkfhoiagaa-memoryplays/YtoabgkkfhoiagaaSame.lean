/- Contracts of the two comparisons of lists. -/
import Derived.Test.YtoabgkkfhoiagaaOpen
namespace Go.Proofs.Ytoabgkkfhoiagaa
open Go.RowKit Go.Maps Go.ChangeMaps

/-- Numbers that can be read at a. -/
def RowIs (q : IntKind) (w : World) (a : Option Addr) (xs : List Int) : Prop :=
  xs = [] ∨ ∃ b off, a = some ⟨b, off, none⟩ ∧ ∀ i, i < xs.length → w.cell? ⟨b, off + i, none⟩ = some (.int q (xs.getD i 0))

theorem RowIs.same {q : IntKind} {w w' : World} {a : Option Addr} {xs : List Int} (h : RowIs q w a xs) (hb : ∀ B, Below B w w') : RowIs q w' a xs := by
  rcases h with h | ⟨b, off, e, hc⟩
  · exact .inl h
  · exact .inr ⟨b, off, e, fun i hi => ((hb (b + 1)).cell (p := ⟨b, off + i, none⟩) (Nat.lt_succ_self b)).trans (hc i hi)⟩

theorem RowIs.below {q : IntKind} {w w' : World} {a : Option Addr} {xs : List Int} (h : RowIs q w a xs) (hb : Below w.heap.size w w') : RowIs q w' a xs := by
  rcases h with h | ⟨b, off, e, hc⟩
  · exact .inl h
  · exact .inr ⟨b, off, e, fun i hi => (hb.cell (p := ⟨b, off + i, none⟩) (World.block_lt_of_cell? w _ (hc i hi))).trans (hc i hi)⟩

theorem RowIs.only {q : IntKind} {w w' : World} {a : Option Addr} {xs : List Int} {S : List Nat} (h : RowIs q w a xs) (ho : Only S w w') (ha : ∀ x, a = some x → x.block ∉ S) : RowIs q w' a xs := by
  rcases h with h | ⟨b, off, e, hc⟩
  · exact .inl h
  · refine .inr ⟨b, off, e, fun i hi => ?_⟩
    have hl := World.block_lt_of_cell? w _ (hc i hi)
    rw [World.cell?_of_block (w := w) (ho.block b hl (ha _ e))]
    exact hc i hi

theorem rowIs_of_owns {q : IntKind} {w : World} {base e n cap : Nat} {a : Option Addr} {xs : List Int} (h : w.ownsRow base e 1 (.slice a n cap) n (xs.map (Value.int q))) : RowIs q w a xs := by
  have hl := h.1
  simp at hl
  rcases h.2 with ⟨_, h0⟩ | ⟨g, c, cur, e1, _, _⟩
  · left; exact List.length_eq_zero_iff.1 (by omega)
  · cases e1
    refine .inr ⟨g, 0, rfl, fun i hi => ?_⟩
    have hcell := h.cellAt i (by omega)
    rw [Nat.zero_add, hcell]
    simp [hi]

theorem drewN_below (w : World) (q : Nat) : ∀ B, Below B w (w.drewN q) := fun _ => ⟨rfl, rfl, rfl, Nat.le_refl _, fun _ _ => rfl⟩

theorem getD_eq {xs ys : List Int} (hl : xs.length = ys.length) (h : ∀ j, j < xs.length → xs.getD j 0 = ys.getD j 0) : xs = ys := by
  apply List.ext_getElem hl
  intro i h1 h2
  have := h i h1
  simpa [h1, h2] using this

set_option maxHeartbeats 1000000 in
theorem same_any (w : World) (a b : Option Addr) (ca cb : Nat) (xs ys : List Int) (hx : RowIs .u64 w a xs) (hy : RowIs .u64 w b ys) (hlx : xs.length ≤ 9223372036854775807) :
    Calls Try.prog 20 #[.slice a xs.length ca, .slice b ys.length cb] w fun e w' => e = .returned (.bool (decide (xs = ys))) ∧ ∀ B, Below B w w' := by
  by_cases hl : xs.length = ys.length
  · go_enter Try.func20, Try.ntmps20
    go_wp2
    go_loopw [5] (fun i wr => ∃ k : Nat, k ≤ xs.length ∧ i = .int .i64 k ∧ (∀ j, j < k → xs.getD j 0 = ys.getD j 0) ∧ ∀ B, Below B w wr) (fun i _ => xs.length - (intOf i).toNat)
    case atStart => exact ⟨0, Nat.zero_le _, rfl, fun j h => absurd h (Nat.not_lt_zero _), fun B => Below.refl _ _⟩
    case round =>
      obtain ⟨k, hk, rfl, hj, hb⟩ := hrel
      by_cases hlt : k < xs.length
      · have hx' := hx.same hb
        have hy' := hy.same hb
        rcases hx' with h0 | ⟨xb, xo, rfl, hxc⟩
        · rw [h0] at hlt; exact absurd hlt (Nat.not_lt_zero _)
        rcases hy' with h0 | ⟨yb, yo, rfl, hyc⟩
        · rw [hl, h0] at hlt; exact absurd hlt (Nat.not_lt_zero _)
        have c1 := hxc k hlt
        have c2 := hyc k (by omega)
        obtain ⟨p, hp⟩ : ∃ p, xs.getD k 0 = p := ⟨_, rfl⟩
        obtain ⟨r, hr⟩ : ∃ r, ys.getD k 0 = r := ⟨_, rfl⟩
        rw [hp] at c1
        rw [hr] at c2
        have hly : k < ys.length := by omega
        have i1 : (k : Int) < (xs.length : Int) := by omega
        have i2 : (k : Int) < (ys.length : Int) := by omega
        have HP : Hid (xs.getD k 0 = p ∧ ys.getD k 0 = r ∧ xs.length = ys.length) := ⟨hp, hr, hl⟩
        clear hxc hyc hx hy hp hr hl
        by_cases hpr : p = r
        · subst hpr
          go_wp2
          go_quiet (fail)
          go_wp2
          go_roundw
          case rel =>
            refine ⟨k + 1, by omega, by go_num, fun j h => ?_, fun B => (hb B).trans (drewN_below _ _ B)⟩
            by_cases e : j = k
            · subst e; rw [HP.out.1, HP.out.2.1]
            · exact hj j (by omega)
          case measure => simp [intOf]; omega
        · go_wp2
          go_quiet (fail)
          go_wp2
          go_ret
          refine ⟨ret_bool ?_, fun B => (hb B).trans (drewN_below _ _ B)⟩
          symm; simp only [decide_eq_false_iff_not]
          intro e
          apply hpr
          rw [← HP.out.1, ← HP.out.2.1, e]
      · obtain rfl : k = xs.length := by omega
        go_wp2
        go_ret
        exact ⟨ret_bool (by symm; simp only [decide_eq_true_eq]; exact getD_eq hl hj), hb⟩
  · have hne : ¬ xs = ys := fun e => hl (by rw [e])
    go_enter Try.func20, Try.ntmps20
    go_wp2
    go_ret
    exact ⟨ret_bool (by simp [hne]), fun B => Below.refl _ _⟩

set_option maxHeartbeats 1000000 in
theorem sameInts_any (w : World) (a b : Option Addr) (ca cb : Nat) (xs ys : List Int) (hx : RowIs .i64 w a xs) (hy : RowIs .i64 w b ys) (hlx : xs.length ≤ 9223372036854775807) :
    Calls Try.prog 17 #[.slice a xs.length ca, .slice b ys.length cb] w fun e w' => e = .returned (.bool (decide (xs = ys))) ∧ ∀ B, Below B w w' := by
  by_cases hl : xs.length = ys.length
  · go_enter Try.func17, Try.ntmps17
    go_wp2
    go_loopw [5] (fun i wr => ∃ k : Nat, k ≤ xs.length ∧ i = .int .i64 k ∧ (∀ j, j < k → xs.getD j 0 = ys.getD j 0) ∧ ∀ B, Below B w wr) (fun i _ => xs.length - (intOf i).toNat)
    case atStart => exact ⟨0, Nat.zero_le _, rfl, fun j h => absurd h (Nat.not_lt_zero _), fun B => Below.refl _ _⟩
    case round =>
      obtain ⟨k, hk, rfl, hj, hb⟩ := hrel
      by_cases hlt : k < xs.length
      · have hx' := hx.same hb
        have hy' := hy.same hb
        rcases hx' with h0 | ⟨xb, xo, rfl, hxc⟩
        · rw [h0] at hlt; exact absurd hlt (Nat.not_lt_zero _)
        rcases hy' with h0 | ⟨yb, yo, rfl, hyc⟩
        · rw [hl, h0] at hlt; exact absurd hlt (Nat.not_lt_zero _)
        have c1 := hxc k hlt
        have c2 := hyc k (by omega)
        obtain ⟨p, hp⟩ : ∃ p, xs.getD k 0 = p := ⟨_, rfl⟩
        obtain ⟨r, hr⟩ : ∃ r, ys.getD k 0 = r := ⟨_, rfl⟩
        rw [hp] at c1
        rw [hr] at c2
        have hly : k < ys.length := by omega
        have i1 : (k : Int) < (xs.length : Int) := by omega
        have i2 : (k : Int) < (ys.length : Int) := by omega
        have HP : Hid (xs.getD k 0 = p ∧ ys.getD k 0 = r ∧ xs.length = ys.length) := ⟨hp, hr, hl⟩
        clear hxc hyc hx hy hp hr hl
        by_cases hpr : p = r
        · subst hpr
          go_wp2
          go_quiet (fail)
          go_wp2
          go_roundw
          case rel =>
            refine ⟨k + 1, by omega, by go_num, fun j h => ?_, fun B => (hb B).trans (drewN_below _ _ B)⟩
            by_cases e : j = k
            · subst e; rw [HP.out.1, HP.out.2.1]
            · exact hj j (by omega)
          case measure => simp [intOf]; omega
        · go_wp2
          go_quiet (fail)
          go_wp2
          go_ret
          refine ⟨ret_bool ?_, fun B => (hb B).trans (drewN_below _ _ B)⟩
          symm; simp only [decide_eq_false_iff_not]
          intro e
          apply hpr
          rw [← HP.out.1, ← HP.out.2.1, e]
      · obtain rfl : k = xs.length := by omega
        go_wp2
        go_ret
        exact ⟨ret_bool (by symm; simp only [decide_eq_true_eq]; exact getD_eq hl hj), hb⟩
  · have hne : ¬ xs = ys := fun e => hl (by rw [e])
    go_enter Try.func17, Try.ntmps17
    go_wp2
    go_ret
    exact ⟨ret_bool (by simp [hne]), fun B => Below.refl _ _⟩

end Go.Proofs.Ytoabgkkfhoiagaa
