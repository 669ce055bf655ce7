/- Contracts of Concat, of two rows of steps that aren't empty, and of notes and status. -/
import Derived.Test.YtfalchacdebdpaaSealC
import Derived.Lib.AppendZeros
import Derived.Laws.OwnMore
namespace Go.Proofs.Ytfalchacdebdpaa
open Go.RowKit Go.Maps Go.ChangeMaps Go.Shelf

theorem add_none (b o j : Nat) : (⟨b, o, none⟩ : Addr).add j = ⟨b, o + j, none⟩ := by unfold Addr.add; by_cases e : j = 0 <;> simp [e]

theorem steps_cells {w : World} {b o : Nat} {ss : List Stp} (hc : ∀ i, i < ss.length → w.cell? ⟨b, o + i * 3, none⟩ = some (.int .i64 (ss.getD i ⟨0, 0, 0⟩).kind) ∧ w.cell? ⟨b, o + i * 3 + 1, none⟩ = some (.int .i64 (ss.getD i ⟨0, 0, 0⟩).at_) ∧ w.cell? ⟨b, o + i * 3 + 2, none⟩ = some (.int .u64 (ss.getD i ⟨0, 0, 0⟩).v)) (j : Nat) (u : Value) (hj : (stpVals ss)[j]? = some u) : w.cell? ((⟨b, o, none⟩ : Addr).add j) = some u := by
  have hl : j < (stpVals ss).length := by
    rcases Nat.lt_or_ge j (stpVals ss).length with h | h
    · exact h
    · rw [List.getElem?_eq_none h] at hj; cases hj
  rw [stpVals_len] at hl
  obtain ⟨q, r, hr, rfl⟩ : ∃ q r, r < 3 ∧ j = q * 3 + r := ⟨j / 3, j % 3, by omega, by omega⟩
  have hq : q < ss.length := by omega
  have h1 := hc q hq
  have h2 := stpVals_at ss q hq
  rw [add_none]
  rcases (show r = 0 ∨ r = 1 ∨ r = 2 by omega) with rfl | rfl | rfl
  · rw [Nat.add_zero] at hj ⊢
    rw [h2.1] at hj; rw [← hj]; exact h1.1
  · rw [h2.2.1] at hj; rw [← hj, ← Nat.add_assoc]; exact h1.2.1
  · rw [h2.2.2] at hj; rw [← hj, ← Nat.add_assoc]; exact h1.2.2
theorem stpVals_one' (ss : List Stp) : ∀ u ∈ stpVals ss, u.oneCell' = true := by
  intro u hu
  obtain ⟨s, _, h⟩ := List.mem_flatMap.1 hu
  simp at h
  rcases h with rfl | rfl | rfl <;> rfl

theorem below_new (w : World) (o : Obj) : Below w.heap.size w (w.drew.alloc o) := ((Below.refl _ w).drew).alloc (Nat.le_refl _) o

set_option maxHeartbeats 1000000 in
set_option maxRecDepth 100000 in
theorem grow_some (n : Nat) (w : World) (h0 : 0 < n) (hn : n ≤ 2000000) :
    Calls Try.prog 53 #[.slice none 0 0, .int .i64 n] w fun e w' => ∃ B c, e = .returned (.slice (some ⟨B, 0, none⟩) 0 c) ∧ w'.ownsRow w.heap.size 34 3 (.slice (some ⟨B, 0, none⟩) 0 c) 0 [] ∧ Below w.heap.size w w' := by
  obtain ⟨i0, hi, hz0, hz1, hz2⟩ := info_parts Try.info34
  have hrun := Lib.run_append_nil_zeros (P := Try.prog) w 25 3 25 34 i0 _ .i64 .i64 Try.underlying25 Try.underlying3 hi hz0 n h0 (by omega) (by omega) (by rw [hz2]; omega)
  have hge := grownCap_ge w n 0 34
  have hle := grownCap_le_maxLen w n 0 34 (by unfold maxLen; omega)
  have hcl : Hid ((w.drew.alloc (.cells (Builtin.zeroCells (Value.agg #[.int .i64 0, .int .i64 0, .int .u64 0]).cells n ++ Builtin.zeroCells (Value.agg #[.int .i64 0, .int .i64 0, .int .u64 0]).cells (grownCap w n 0 34 - n)) 34)).ownsRow w.heap.size 34 3 (.slice (some ⟨w.heap.size, 0, none⟩) 0 (grownCap w n 0 34)) 0 []) := by
    refine World.ownsRow_made (w := w.drew) _ _ (Nat.le_refl _) hle ?_
    rw [Array.size_append, size_zeroCells, size_zeroCells]
    show n * 3 + (grownCap w n 0 34 - n) * 3 = _
    omega
  obtain ⟨c, hc⟩ : ∃ c, grownCap w n 0 34 = c := ⟨_, rfl⟩
  obtain ⟨ob, hob⟩ : ∃ ob, Obj.cells (Builtin.zeroCells (Value.agg #[.int .i64 0, .int .i64 0, .int .u64 0]).cells n ++ Builtin.zeroCells (Value.agg #[.int .i64 0, .int .i64 0, .int .u64 0]).cells (grownCap w n 0 34 - n)) 34 = ob := ⟨_, rfl⟩
  rw [hob, hc] at hrun hcl
  rw [hc] at hge hle
  clear hob hc
  have HR : Hid _ := hrun
  clear hrun
  unfold maxLen at hle
  go_enter Try.func53, Try.ntmps53
  go_wp2_with (at_builtin; refine Lib.wpList_append_run _ rfl _ _ _ _ rfl _ _ rfl rfl _ _ (Hid.out HR) ?_)
  go_ret
  exact ⟨_, _, rfl, hcl.out, below_new _ _⟩

/-- How many of the two are gone through. -/
def upTo (xs ys : List Stp) : Nat → List Stp
  | 0 => []
  | 1 => xs
  | _ => xs ++ ys

set_option maxHeartbeats 4000000 in
set_option maxRecDepth 100000 in
theorem concat_any (B b1 o1 b2 o2 n1 n2 c1 c2 : Nat) (xs ys : List Stp) (w : World) (hB : B < w.heap.size)
    (hc1 : w.cell? ⟨B, 0, none⟩ = some (.slice (some ⟨b1, o1, none⟩) n1 c1)) (hc2 : w.cell? ⟨B, 1, none⟩ = some (.slice (some ⟨b2, o2, none⟩) n2 c2)) (h1 : StpsAt w (some ⟨b1, o1, none⟩) xs) (h2 : StpsAt w (some ⟨b2, o2, none⟩) ys)
    (l1 : xs.length = n1) (l2 : ys.length = n2) (p1 : 0 < n1) (p2 : 0 < n2) (hn1 : n1 ≤ 1000000) (hn2 : n2 ≤ 1000000) :
    Calls Try.prog 30 #[.slice (some ⟨B, 0, none⟩) 2 2] w fun e w' => ∃ v, e = .returned v ∧ OwnStps w' w.heap.size v (xs ++ ys) ∧ Below w.heap.size w w' := by
  obtain ⟨i0, hi, hz0, hz1, hz2⟩ := info_parts Try.info34
  have H1 : Hid (StpsAt w (some ⟨b1, o1, none⟩) xs) := h1
  have H2 : Hid (StpsAt w (some ⟨b2, o2, none⟩) ys) := h2
  have L1 : Hid (xs.length = n1) := l1
  have L2 : Hid (ys.length = n2) := l2
  clear h1 h2 l1 l2
  go_enter Try.func30, Try.ntmps30
  go_wp2
  go_loop [3, 5, 11] (fun z _ i => (i = .int .i64 0 ∧ z = .int .i64 0) ∨ (i = .int .i64 1 ∧ z = .int .i64 n1) ∨ (i = .int .i64 2 ∧ z = .int .i64 (n1 + n2 : Nat))) (fun _ _ i => 2 - (intOf i).toNat)
  case atStart => exact .inl ⟨rfl, rfl⟩
  case round =>
    rcases hrel with ⟨rfl, rfl⟩ | ⟨rfl, rfl⟩ | ⟨rfl, rfl⟩
    · go_wp2
      go_round
      case rel => exact .inr (.inl ⟨rfl, by go_num⟩)
      case measure => simp [intOf]
    · go_wp2
      go_round
      case rel => exact .inr (.inr ⟨rfl, by go_num⟩)
      case measure => simp [intOf]
    · go_wp2_with fail
      refine (grow_some (n1 + n2) _ (by omega) (by omega)).mono ?_
      rintro e w1 ⟨a, c, rfl, hown, hb⟩
      go_wp2
      go_loopw [6, 8, 27] (fun v _ i wr => ∃ k : Nat, k ≤ 2 ∧ i = .int .i64 k ∧ OwnStps wr w.heap.size v (upTo xs ys k) ∧ Below w.heap.size w wr) (fun _ _ i _ => 2 - (intOf i).toNat)
      case atStart => exact ⟨0, by omega, rfl, hown, hb⟩
      case round =>
        obtain ⟨k, hk, rfl, ho, hnx⟩ := hrel
        have t1 := H1.out.later (Nat.le_refl _) hnx
        have t2 := H2.out.later (Nat.le_refl _) hnx
        have d1 : wr.cell? ⟨B, 0, none⟩ = some (.slice (some ⟨b1, o1, none⟩) n1 c1) := (hnx.cell (p := ⟨B, 0, none⟩) hB).trans hc1
        have d2 : wr.cell? ⟨B, 1, none⟩ = some (.slice (some ⟨b2, o2, none⟩) n2 c2) := (hnx.cell (p := ⟨B, 1, none⟩) hB).trans hc2
        have e1 := L1.out
        have e2 := L2.out
        rcases (show k = 0 ∨ k = 1 ∨ k = 2 by omega) with rfl | rfl | rfl
        · have hne : xs ≠ [] := fun e => by subst e; simp at e1; omega
          obtain ⟨b, o, hbo, _, hc⟩ := t1.resolve_left hne
          cases hbo
          have HN : Hid (∀ j u, (stpVals xs)[j]? = some u → wr.cell? ((⟨b1, o1, none⟩ : Addr).add j) = some u) := fun j u => steps_cells hc j u
          have HL : Hid ((stpVals xs).length = n1 * 3) := by rw [← e1]; exact stpVals_len xs
          have HO : Hid (wr.ownsRow w.heap.size 34 3 u6 0 []) := ho
          have HLT : Hid (∀ j, u6.ownBlock = some j → w.heap.size ≤ j) := fun j h => (World.ownsRow.lt ho j h).1
          clear hc t1 t2 ho hown hb e1 e2
          go_wp2_with (first
            | (at_builtin; refine wpList_append_own _ rfl _ _ 25 rfl w.heap.size 34 i0 (.agg #[.int .i64 0, .int .i64 0, .int .u64 0]) 3 24 Try.underlying25 hi hz0 hz1 hz2 rfl (by decide) _ 0 [] rfl HO.out ⟨b1, o1, none⟩ n1 c1 (stpVals xs) rfl HL.out HN.out (stpVals_one' xs) ?c3 ?c4 hnx.size ?_)
            | go_in)
          case c3 => unfold maxLen; omega
          case c4 => omega
          intro v' w2 hown' hgrow _
          have hnx2 : Below w.heap.size w w2 := hnx.grown hgrow hnx.size HLT.out
          have hown2 : OwnStps w2 w.heap.size v' (upTo xs ys 1) := by
            show w2.ownsRow w.heap.size 34 3 v' xs.length (stpVals xs)
            rw [L1.out]; simpa using hown'
          clear hgrow hown'
          go_wp2
          go_roundw
          case rel => exact ⟨1, by omega, rfl, hown2, hnx2⟩
          case measure => simp [intOf]
        · have hne : ys ≠ [] := fun e => by subst e; simp at e2; omega
          obtain ⟨b, o, hbo, _, hc⟩ := t2.resolve_left hne
          cases hbo
          have HN : Hid (∀ j u, (stpVals ys)[j]? = some u → wr.cell? ((⟨b2, o2, none⟩ : Addr).add j) = some u) := fun j u => steps_cells hc j u
          have HL : Hid ((stpVals ys).length = n2 * 3) := by rw [← e2]; exact stpVals_len ys
          have HO : Hid (wr.ownsRow w.heap.size 34 3 u6 n1 (stpVals xs)) := by rw [← e1]; exact ho
          have HLT : Hid (∀ j, u6.ownBlock = some j → w.heap.size ≤ j) := fun j h => (World.ownsRow.lt ho j h).1
          clear hc t1 t2 ho hown hb e1 e2
          go_wp2_with (first
            | (at_builtin; refine wpList_append_own _ rfl _ _ 25 rfl w.heap.size 34 i0 (.agg #[.int .i64 0, .int .i64 0, .int .u64 0]) 3 24 Try.underlying25 hi hz0 hz1 hz2 rfl (by decide) _ n1 (stpVals xs) rfl HO.out ⟨b2, o2, none⟩ n2 c2 (stpVals ys) rfl HL.out HN.out (stpVals_one' ys) ?c3 ?c4 hnx.size ?_)
            | go_in)
          case c3 => unfold maxLen; omega
          case c4 => omega
          intro v' w2 hown' hgrow _
          have hnx2 : Below w.heap.size w w2 := hnx.grown hgrow hnx.size HLT.out
          have hown2 : OwnStps w2 w.heap.size v' (upTo xs ys 2) := by
            show w2.ownsRow w.heap.size 34 3 v' (xs ++ ys).length (stpVals (xs ++ ys))
            rw [List.length_append, stpVals_append, L1.out, L2.out]; exact hown'
          clear hgrow hown'
          go_wp2
          go_roundw
          case rel => exact ⟨2, by omega, rfl, hown2, hnx2⟩
          case measure => simp [intOf]
        · clear t1 t2 hown hb e1 e2
          go_wp2
          go_ret
          exact ⟨_, rfl, ho, hnx⟩

end Go.Proofs.Ytfalchacdebdpaa
