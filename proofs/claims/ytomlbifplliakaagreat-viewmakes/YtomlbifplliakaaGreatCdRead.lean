/- Contract of Read: the card of eight words, or that they are no card's. -/
import Derived.Test.YtomlbifplliakaaGreatCdWrite
namespace Go.Proofs.YtomlbifplliakaaGreat.Cd
open Go.RowKit

/-- Eight words lie from the place o of the block b on. -/
def Src (w : World) (b o : Nat) (a0 a1 a2 a3 a4 a5 a6 a7 : Int) : Prop := b < w.heap.size ∧ w.cell? ⟨b, o, none⟩ = some (.int .u64 a0) ∧ w.cell? ⟨b, o + 1, none⟩ = some (.int .u64 a1) ∧ w.cell? ⟨b, o + 2, none⟩ = some (.int .u64 a2) ∧ w.cell? ⟨b, o + 3, none⟩ = some (.int .u64 a3) ∧ w.cell? ⟨b, o + 4, none⟩ = some (.int .u64 a4) ∧ w.cell? ⟨b, o + 5, none⟩ = some (.int .u64 a5) ∧ w.cell? ⟨b, o + 6, none⟩ = some (.int .u64 a6) ∧ w.cell? ⟨b, o + 7, none⟩ = some (.int .u64 a7)
theorem Src.later {w w' : World} {b o : Nat} {a0 a1 a2 a3 a4 a5 a6 a7 : Int} (h : Src w b o a0 a1 a2 a3 a4 a5 a6 a7) {B : Nat} (hB : w.heap.size ≤ B) (hb : Below B w w') : Src w' b o a0 a1 a2 a3 a4 a5 a6 a7 := by
  unfold Src at h ⊢
  have e : ∀ o, w'.cell? ⟨b, o, none⟩ = w.cell? ⟨b, o, none⟩ := fun o => hb.cell (p := ⟨b, o, none⟩) (show b < B by omega)
  simp only [e]
  exact ⟨by have := hb.size; omega, h.2⟩

theorem copy_in (a0 a1 a2 a3 a4 a5 a6 a7 : Int) (w : World) (b o c : Nat) (box : Array Value) (h : Src w b o a0 a1 a2 a3 a4 a5 a6 a7) :
    (Builtin.copy_ #[25, 25] 3 #[.slice (some ⟨w.heap.size + 1, 0, none⟩) 8 8, .slice (some ⟨b, o, none⟩) 8 c]).run Tryz.prog
      ((w.alloc (.cells box 38)).alloc (.cells #[.int .u64 0, .int .u64 0, .int .u64 0, .int .u64 0, .int .u64 0, .int .u64 0, .int .u64 0, .int .u64 0] 100))
      = .ok (.int .i64 8) ((w.alloc (.cells box 38)).alloc (.cells #[.int .u64 a0, .int .u64 a1, .int .u64 a2, .int .u64 a3, .int .u64 a4, .int .u64 a5, .int .u64 a6, .int .u64 a7] 100)) := by
  obtain ⟨hb, s0, s1, s2, s3, s4, s5, s6, s7⟩ := h
  have hlt : ∀ x, ((w.alloc (.cells box 38)).alloc (.cells #[.int .u64 0, .int .u64 0, .int .u64 0, .int .u64 0, .int .u64 0, .int .u64 0, .int .u64 0, .int .u64 0] 100)).cell? ⟨b, x, none⟩ = w.cell? ⟨b, x, none⟩ := fun x =>
    (((Below.refl w.heap.size w).alloc (Nat.le_refl _) _).alloc (by simp) _).cell (p := ⟨b, x, none⟩) hb
  rw [run_copy_cells (P := Tryz.prog) _ 25 25 3 35 (w.heap.size + 1) 0 8 8 ⟨b, o, none⟩ 8 c [.int .u64 a0, .int .u64 a1, .int .u64 a2, .int .u64 a3, .int .u64 a4, .int .u64 a5, .int .u64 a6, .int .u64 a7] Tryz.underlying25 info22 rfl ?_ ?_ ?_ ?_]
  · simp [World.setCells, go_sem]
  · intro j u hj
    rw [Addr.add_lit, hlt]
    match j, hj with
    | 0, hj => cases hj; exact s0
    | 1, hj => cases hj; exact s1
    | 2, hj => cases hj; exact s2
    | 3, hj => cases hj; exact s3
    | 4, hj => cases hj; exact s4
    | 5, hj => cases hj; exact s5
    | 6, hj => cases hj; exact s6
    | 7, hj => cases hj; exact s7
  · intro j hj
    match j, hj with
    | 0, _ => simp [go_sem]
    | 1, _ => simp [go_sem]
    | 2, _ => simp [go_sem]
    | 3, _ => simp [go_sem]
    | 4, _ => simp [go_sem]
    | 5, _ => simp [go_sem]
    | 6, _ => simp [go_sem]
    | 7, _ => simp [go_sem]
  · intro j hj
    simp [go_sem]
  · simp [Value.oneCell']

/-- The result's block, as it was made. -/
def Zero (w : World) (g : Nat) : Prop := w.heap[g]? = some (.cells #[.int .i64 0, .int .i64 0, .int .i64 0, .int .u64 0, .int .i64 0, .int .i64 0, .int .i64 0, .int .i64 0, .int .i64 0, .int .i64 0] 38 (0, 0))
theorem Zero.later {w w' : World} {g : Nat} (h : Zero w g) {B : Nat} (hg : g < B) (hb : Below B w w') : Zero w' g := by
  unfold Zero at h ⊢
  rw [hb.block g hg]
  exact h
theorem Zero.frozen {w : World} {g : Nat} (h : Zero w g) (i : Nat) : w.frozen? ⟨g, i, none⟩ = false := frozen_of_row w g i _ _ h
theorem Zero.ten {w : World} {g : Nat} (h : Zero w g) : Ten w g 0 0 0 0 0 0 0 0 0 0 := by
  unfold Ten
  unfold Zero at h
  simp [cell_of_row w g _ _ _ _ h]

theorem new_rows (w : World) (a0 a1 a2 a3 a4 a5 a6 a7 : Int) : ∃ X : World, (w.alloc (.cells #[.int .i64 0, .int .i64 0, .int .i64 0, .int .u64 0, .int .i64 0, .int .i64 0, .int .i64 0, .int .i64 0, .int .i64 0, .int .i64 0] 38)).alloc (.cells #[.int .u64 a0, .int .u64 a1, .int .u64 a2, .int .u64 a3, .int .u64 a4, .int .u64 a5, .int .u64 a6, .int .u64 a7] 100) = X
    ∧ Hid (∀ v', Below X.heap.size X v' → Below w.heap.size w v') ∧ Hid (∀ v', Below X.heap.size X v' → v'.cell? ⟨(w.heap.size + 1), 0, none⟩ = some (.int .u64 a0) ∧ v'.cell? ⟨(w.heap.size + 1), 1, none⟩ = some (.int .u64 a1) ∧ v'.cell? ⟨(w.heap.size + 1), 2, none⟩ = some (.int .u64 a2) ∧ v'.cell? ⟨(w.heap.size + 1), 3, none⟩ = some (.int .u64 a3) ∧ v'.cell? ⟨(w.heap.size + 1), 4, none⟩ = some (.int .u64 a4) ∧ v'.cell? ⟨(w.heap.size + 1), 5, none⟩ = some (.int .u64 a5) ∧ v'.cell? ⟨(w.heap.size + 1), 6, none⟩ = some (.int .u64 a6) ∧ v'.cell? ⟨(w.heap.size + 1), 7, none⟩ = some (.int .u64 a7)) ∧ Hid (∀ v', Below X.heap.size X v' → Zero v' w.heap.size) := by
  refine ⟨_, rfl, fun v' h => ?_, fun v' h => ?_, fun v' h => ?_⟩
  · exact (((Below.refl _ _).alloc (Nat.le_refl _) _).alloc (by simp) _).trans (h.mono (by simp; omega))
  · have e := (row8_alloc (w.alloc (.cells #[.int .i64 0, .int .i64 0, .int .i64 0, .int .u64 0, .int .i64 0, .int .i64 0, .int .i64 0, .int .i64 0, .int .i64 0, .int .i64 0] 38)) a0 a1 a2 a3 a4 a5 a6 a7).later (w' := v') (B := ((w.alloc (.cells #[.int .i64 0, .int .i64 0, .int .i64 0, .int .u64 0, .int .i64 0, .int .i64 0, .int .i64 0, .int .i64 0, .int .i64 0, .int .i64 0] 38)).alloc (.cells #[.int .u64 a0, .int .u64 a1, .int .u64 a2, .int .u64 a3, .int .u64 a4, .int .u64 a5, .int .u64 a6, .int .u64 a7] 100)).heap.size) (by simp) h
    rw [World.size_alloc] at e
    exact e
  · refine Zero.later ?_ (B := ((w.alloc (.cells #[.int .i64 0, .int .i64 0, .int .i64 0, .int .u64 0, .int .i64 0, .int .i64 0, .int .i64 0, .int .i64 0, .int .i64 0, .int .i64 0] 38)).alloc (.cells #[.int .u64 a0, .int .u64 a1, .int .u64 a2, .int .u64 a3, .int .u64 a4, .int .u64 a5, .int .u64 a6, .int .u64 a7] 100)).heap.size) (by simp; omega) h
    unfold Zero
    rw [((Below.refl (w.alloc (.cells #[.int .i64 0, .int .i64 0, .int .i64 0, .int .u64 0, .int .i64 0, .int .i64 0, .int .i64 0, .int .i64 0, .int .i64 0, .int .i64 0] 38)).heap.size (w.alloc (.cells #[.int .i64 0, .int .i64 0, .int .i64 0, .int .u64 0, .int .i64 0, .int .i64 0, .int .i64 0, .int .i64 0, .int .i64 0, .int .i64 0] 38))).alloc (Nat.le_refl _) _).block w.heap.size (by simp)]
    show (w.heap.push _)[w.heap.size]? = _
    simp

set_option maxHeartbeats 2000000 in
theorem read_bad (b o c : Nat) (a0 a1 a2 a3 a4 a5 a6 a7 k l s d0 d1 d2 d3 d4 m : Int) (w : World) (hs : Src w b o a0 a1 a2 a3 a4 a5 a6 a7)
    (h0 : 0 ≤ a0 ∧ a0 ≤ 18446744073709551615) (h2 : 0 ≤ a2 ∧ a2 ≤ 18446744073709551615) (h3 : 0 ≤ a3 ∧ a3 ≤ 18446744073709551615) (h : Says a0 a2 a3 k l s d0 d1 d2 d3 d4 m) (hr : ¬ Rt k l s d0 d1 d2 d3 d4 m) :
    Calls Tryz.prog 57 #[.slice (some ⟨b, o, none⟩) 8 c] w fun e w' => e = .returned (.tuple #[.agg #[.int .i64 0, .int .i64 0, .int .i64 0, .int .u64 0, .int .i64 0, .int .i64 0, .int .i64 0, .int .i64 0, .int .i64 0, .int .i64 0], .int .i64 15]) ∧ Below w.heap.size w w' := by
  have HU : Hid (∀ w, Calls Tryz.prog 72 #[.agg #[.int .u64 a0, .int .u64 a1, .int .u64 a2, .int .u64 a3, .int .u64 a4, .int .u64 a5, .int .u64 a6, .int .u64 a7]] w fun e w' => e = .returned (.agg #[.int .i64 k, .int .i64 l, .int .i64 s, .int .u64 a1, .int .i64 d0, .int .i64 d1, .int .i64 d2, .int .i64 d3, .int .i64 d4, .int .i64 m]) ∧ Below w.heap.size w w') := fun w => unlay_any a0 a1 a2 a3 a4 a5 a6 a7 k l s d0 d1 d2 d3 d4 m w h0 h2 h3 h
  have hc := copy_in a0 a1 a2 a3 a4 a5 a6 a7 w b o c #[.int .i64 0, .int .i64 0, .int .i64 0, .int .u64 0, .int .i64 0, .int .i64 0, .int .i64 0, .int .i64 0, .int .i64 0, .int .i64 0] hs
  have HR : Hid (¬ Rt k l s d0 d1 d2 d3 d4 m) := hr
  clear h0 h2 h3 h hr hs
  go_enter Tryz.func57, Tryz.ntmps57
  go_wp2_with fail
  clear hc
  obtain ⟨X, hX, XE, XC, XZ⟩ := new_rows w a0 a1 a2 a3 a4 a5 a6 a7
  rw [hX]
  clear hX
  refine Calls.mono (HU.out _) ?_
  rintro e w1 ⟨rfl, bel1⟩
  have BL : Hid (Below X.heap.size X w1) := bel1
  clear bel1 HU
  go_wp2_with fail
  obtain ⟨Y, hY, YS, YE, YC⟩ := new_card w1 k l s a1 d0 d1 d2 d3 d4 m
  rw [hY]
  clear hY
  have HX : Hid (∀ v', Below Y.heap.size Y v' → Below X.heap.size X v') := fun v' hv => below_next BL.out (YE.out v' hv) (Nat.le_refl _)
  obtain ⟨G, hG⟩ : ∃ G, w1.heap.size = G := ⟨_, rfl⟩
  have HCC : Hid (∀ v', Below Y.heap.size Y v' → (v'.cell? ⟨G, 0, none⟩ = some (.int .i64 k) ∧ v'.cell? ⟨G, 1, none⟩ = some (.int .i64 l) ∧ v'.cell? ⟨G, 2, none⟩ = some (.int .i64 s) ∧ v'.cell? ⟨G, 3, none⟩ = some (.int .u64 a1) ∧ v'.cell? ⟨G, 4, none⟩ = some (.int .i64 d0) ∧ v'.cell? ⟨G, 5, none⟩ = some (.int .i64 d1) ∧ v'.cell? ⟨G, 6, none⟩ = some (.int .i64 d2) ∧ v'.cell? ⟨G, 7, none⟩ = some (.int .i64 d3) ∧ v'.cell? ⟨G, 8, none⟩ = some (.int .i64 d4) ∧ v'.cell? ⟨G, 9, none⟩ = some (.int .i64 m)) ∧ (v'.cell? ⟨(w.heap.size + 1), 0, none⟩ = some (.int .u64 a0) ∧ v'.cell? ⟨(w.heap.size + 1), 1, none⟩ = some (.int .u64 a1) ∧ v'.cell? ⟨(w.heap.size + 1), 2, none⟩ = some (.int .u64 a2) ∧ v'.cell? ⟨(w.heap.size + 1), 3, none⟩ = some (.int .u64 a3) ∧ v'.cell? ⟨(w.heap.size + 1), 4, none⟩ = some (.int .u64 a4) ∧ v'.cell? ⟨(w.heap.size + 1), 5, none⟩ = some (.int .u64 a5) ∧ v'.cell? ⟨(w.heap.size + 1), 6, none⟩ = some (.int .u64 a6) ∧ v'.cell? ⟨(w.heap.size + 1), 7, none⟩ = some (.int .u64 a7))) := fun v' hv => ⟨by have := YC.out v' hv; rw [hG] at this; exact this, XC.out v' (HX.out v' hv)⟩
  rw [hG]
  clear hG YC XC
  have bel : Below Y.heap.size Y Y := Below.refl _ _
  obtain ⟨⟨c0, c1, c2, c3, c4, c5, c6, c7, c8, c9⟩, ⟨e0, e1, e2, e3, e4, e5, e6, e7⟩⟩ := HCC.out Y bel
  go_region_with (first
      | (go_at_call 73; refine Calls.mono (right_no k l s a1 d0 d1 d2 d3 d4 m _ HR.out) ?_; rintro e v1 ⟨rfl, hb⟩; have bel := bel.drew.trans (hb.mono bel.size); clear hb))
  all_goals
    have BX : Hid (Below X.heap.size X _) := HX.out _ bel
    have BF : Hid (Below w.heap.size w _) := XE.out _ BX.out
    obtain ⟨z0, z1, z2, z3, z4, z5, z6, z7, z8, z9⟩ := (XZ.out _ BX.out).ten
    have fz := (XZ.out _ BX.out).frozen
    obtain ⟨⟨q0, q1, q2, q3, q4, q5, q6, q7, q8, q9⟩, -⟩ := HCC.out _ bel
    clear c0 c1 c2 c3 c4 c5 c6 c7 c8 c9 e0 e1 e2 e3 e4 e5 e6 e7
    go_wp2
    refine bodyPost_ret (v := .tuple #[.agg #[_, _, _, _, _, _, _, _, _, _], _]) (by simp [results, Tryz.results57, go_sem, z0, z1, z2, z3, z4, z5, z6, z7, z8, z9]) rfl ⟨rfl, ?_⟩
    exact (((((((((BF.out.setCell (p := ⟨w.heap.size, 0, none⟩) (Nat.le_refl _) _).setCell (p := ⟨w.heap.size, 1, none⟩) (Nat.le_refl _) _).setCell (p := ⟨w.heap.size, 2, none⟩) (Nat.le_refl _) _).setCell (p := ⟨w.heap.size, 3, none⟩) (Nat.le_refl _) _).setCell (p := ⟨w.heap.size, 4, none⟩) (Nat.le_refl _) _).setCell (p := ⟨w.heap.size, 5, none⟩) (Nat.le_refl _) _).setCell (p := ⟨w.heap.size, 6, none⟩) (Nat.le_refl _) _).setCell (p := ⟨w.heap.size, 7, none⟩) (Nat.le_refl _) _).setCell (p := ⟨w.heap.size, 8, none⟩) (Nat.le_refl _) _).setCell (p := ⟨w.heap.size, 9, none⟩) (Nat.le_refl _) _
set_option maxHeartbeats 2000000 in
theorem read_other (b o c : Nat) (a0 a1 a2 a3 a4 a5 a6 a7 k l s d0 d1 d2 d3 d4 m : Int) (w : World) (hs : Src w b o a0 a1 a2 a3 a4 a5 a6 a7)
    (h0 : 0 ≤ a0 ∧ a0 ≤ 18446744073709551615) (h2 : 0 ≤ a2 ∧ a2 ≤ 18446744073709551615) (h3 : 0 ≤ a3 ∧ a3 ≤ 18446744073709551615) (h : Says a0 a2 a3 k l s d0 d1 d2 d3 d4 m) (hr : Rt k l s d0 d1 d2 d3 d4 m) (hq : ¬ (wd0 k l s = a0 ∧ wd2 d0 d1 d2 d3 = a2 ∧ wd3 d4 m = a3 ∧ 0 = a4 ∧ 0 = a5 ∧ 0 = a6 ∧ 0 = a7)) :
    Calls Tryz.prog 57 #[.slice (some ⟨b, o, none⟩) 8 c] w fun e w' => e = .returned (.tuple #[.agg #[.int .i64 0, .int .i64 0, .int .i64 0, .int .u64 0, .int .i64 0, .int .i64 0, .int .i64 0, .int .i64 0, .int .i64 0, .int .i64 0], .int .i64 15]) ∧ Below w.heap.size w w' := by
  have HU : Hid (∀ w, Calls Tryz.prog 72 #[.agg #[.int .u64 a0, .int .u64 a1, .int .u64 a2, .int .u64 a3, .int .u64 a4, .int .u64 a5, .int .u64 a6, .int .u64 a7]] w fun e w' => e = .returned (.agg #[.int .i64 k, .int .i64 l, .int .i64 s, .int .u64 a1, .int .i64 d0, .int .i64 d1, .int .i64 d2, .int .i64 d3, .int .i64 d4, .int .i64 m]) ∧ Below w.heap.size w w') := fun w => unlay_any a0 a1 a2 a3 a4 a5 a6 a7 k l s d0 d1 d2 d3 d4 m w h0 h2 h3 h
  have hc := copy_in a0 a1 a2 a3 a4 a5 a6 a7 w b o c #[.int .i64 0, .int .i64 0, .int .i64 0, .int .u64 0, .int .i64 0, .int .i64 0, .int .i64 0, .int .i64 0, .int .i64 0, .int .i64 0] hs
  have HR : Hid (Rt k l s d0 d1 d2 d3 d4 m) := hr
  have HL : Hid (∀ w, Calls Tryz.prog 74 #[.agg #[.int .i64 k, .int .i64 l, .int .i64 s, .int .u64 a1, .int .i64 d0, .int .i64 d1, .int .i64 d2, .int .i64 d3, .int .i64 d4, .int .i64 m]] w fun e w' => e = .returned (.agg #[.int .u64 (wd0 k l s), .int .u64 a1, .int .u64 (wd2 d0 d1 d2 d3), .int .u64 (wd3 d4 m), .int .u64 0, .int .u64 0, .int .u64 0, .int .u64 0]) ∧ Below w.heap.size w w') := fun w => lay_any k l s a1 d0 d1 d2 d3 d4 m w hr
  have he : ∀ w, (Op.equalIn 10000 100 (.agg #[.int .u64 (wd0 k l s), .int .u64 a1, .int .u64 (wd2 d0 d1 d2 d3), .int .u64 (wd3 d4 m), .int .u64 0, .int .u64 0, .int .u64 0, .int .u64 0]) (.agg #[.int .u64 a0, .int .u64 a1, .int .u64 a2, .int .u64 a3, .int .u64 a4, .int .u64 a5, .int .u64 a6, .int .u64 a7])).run Tryz.prog w = .ok false w := fun w => by
    refine (eq_words _ _ _ _ _ _ _ _ _ _ _ _ _ _ _ _ w).trans (congrArg (fun b => Result.ok b w) ?_)
    rw [decide_eq_false_iff_not]
    exact fun hn => hq ⟨hn.1, hn.2.2⟩
  obtain ⟨x0, hx0⟩ : ∃ x, wd0 k l s = x := ⟨_, rfl⟩
  obtain ⟨x2, hx2⟩ : ∃ x, wd2 d0 d1 d2 d3 = x := ⟨_, rfl⟩
  obtain ⟨x3, hx3⟩ : ∃ x, wd3 d4 m = x := ⟨_, rfl⟩
  rw [hx0, hx2, hx3] at HL he
  clear hx0 hx2 hx3 hq
  clear h0 h2 h3 h hr hs
  go_enter Tryz.func57, Tryz.ntmps57
  go_wp2_with fail
  clear hc
  obtain ⟨X, hX, XE, XC, XZ⟩ := new_rows w a0 a1 a2 a3 a4 a5 a6 a7
  rw [hX]
  clear hX
  refine Calls.mono (HU.out _) ?_
  rintro e w1 ⟨rfl, bel1⟩
  have BL : Hid (Below X.heap.size X w1) := bel1
  clear bel1 HU
  go_wp2_with fail
  obtain ⟨Y, hY, YS, YE, YC⟩ := new_card w1 k l s a1 d0 d1 d2 d3 d4 m
  rw [hY]
  clear hY
  have HX : Hid (∀ v', Below Y.heap.size Y v' → Below X.heap.size X v') := fun v' hv => below_next BL.out (YE.out v' hv) (Nat.le_refl _)
  obtain ⟨G, hG⟩ : ∃ G, w1.heap.size = G := ⟨_, rfl⟩
  have HCC : Hid (∀ v', Below Y.heap.size Y v' → (v'.cell? ⟨G, 0, none⟩ = some (.int .i64 k) ∧ v'.cell? ⟨G, 1, none⟩ = some (.int .i64 l) ∧ v'.cell? ⟨G, 2, none⟩ = some (.int .i64 s) ∧ v'.cell? ⟨G, 3, none⟩ = some (.int .u64 a1) ∧ v'.cell? ⟨G, 4, none⟩ = some (.int .i64 d0) ∧ v'.cell? ⟨G, 5, none⟩ = some (.int .i64 d1) ∧ v'.cell? ⟨G, 6, none⟩ = some (.int .i64 d2) ∧ v'.cell? ⟨G, 7, none⟩ = some (.int .i64 d3) ∧ v'.cell? ⟨G, 8, none⟩ = some (.int .i64 d4) ∧ v'.cell? ⟨G, 9, none⟩ = some (.int .i64 m)) ∧ (v'.cell? ⟨(w.heap.size + 1), 0, none⟩ = some (.int .u64 a0) ∧ v'.cell? ⟨(w.heap.size + 1), 1, none⟩ = some (.int .u64 a1) ∧ v'.cell? ⟨(w.heap.size + 1), 2, none⟩ = some (.int .u64 a2) ∧ v'.cell? ⟨(w.heap.size + 1), 3, none⟩ = some (.int .u64 a3) ∧ v'.cell? ⟨(w.heap.size + 1), 4, none⟩ = some (.int .u64 a4) ∧ v'.cell? ⟨(w.heap.size + 1), 5, none⟩ = some (.int .u64 a5) ∧ v'.cell? ⟨(w.heap.size + 1), 6, none⟩ = some (.int .u64 a6) ∧ v'.cell? ⟨(w.heap.size + 1), 7, none⟩ = some (.int .u64 a7))) := fun v' hv => ⟨by have := YC.out v' hv; rw [hG] at this; exact this, XC.out v' (HX.out v' hv)⟩
  rw [hG]
  clear hG YC XC
  have bel : Below Y.heap.size Y Y := Below.refl _ _
  obtain ⟨⟨c0, c1, c2, c3, c4, c5, c6, c7, c8, c9⟩, ⟨e0, e1, e2, e3, e4, e5, e6, e7⟩⟩ := HCC.out Y bel
  go_region_with (first
      | (go_at_call 73; refine Calls.mono (right_yes k l s a1 d0 d1 d2 d3 d4 m _ HR.out) ?_; rintro e v1 ⟨rfl, hb⟩; have bel := bel.drew.trans (hb.mono bel.size); clear hb; clear c0 c1 c2 c3 c4 c5 c6 c7 c8 c9 e0 e1 e2 e3 e4 e5 e6 e7; obtain ⟨⟨c0, c1, c2, c3, c4, c5, c6, c7, c8, c9⟩, ⟨e0, e1, e2, e3, e4, e5, e6, e7⟩⟩ := HCC.out _ bel)
      | (go_at_call 74; refine Calls.mono (HL.out _) ?_; rintro e v2 ⟨rfl, hb⟩; have bel := bel.trans (hb.mono bel.size); clear hb; clear c0 c1 c2 c3 c4 c5 c6 c7 c8 c9 e0 e1 e2 e3 e4 e5 e6 e7; obtain ⟨⟨c0, c1, c2, c3, c4, c5, c6, c7, c8, c9⟩, ⟨e0, e1, e2, e3, e4, e5, e6, e7⟩⟩ := HCC.out _ bel))
  all_goals
    have BX : Hid (Below X.heap.size X _) := HX.out _ bel
    have BF : Hid (Below w.heap.size w _) := XE.out _ BX.out
    obtain ⟨z0, z1, z2, z3, z4, z5, z6, z7, z8, z9⟩ := (XZ.out _ BX.out).ten
    have fz := (XZ.out _ BX.out).frozen
    obtain ⟨⟨q0, q1, q2, q3, q4, q5, q6, q7, q8, q9⟩, -⟩ := HCC.out _ bel
    clear c0 c1 c2 c3 c4 c5 c6 c7 c8 c9 e0 e1 e2 e3 e4 e5 e6 e7
    go_wp2
    refine bodyPost_ret (v := .tuple #[.agg #[_, _, _, _, _, _, _, _, _, _], _]) (by simp [results, Tryz.results57, go_sem, z0, z1, z2, z3, z4, z5, z6, z7, z8, z9]) rfl ⟨rfl, ?_⟩
    exact (((((((((BF.out.setCell (p := ⟨w.heap.size, 0, none⟩) (Nat.le_refl _) _).setCell (p := ⟨w.heap.size, 1, none⟩) (Nat.le_refl _) _).setCell (p := ⟨w.heap.size, 2, none⟩) (Nat.le_refl _) _).setCell (p := ⟨w.heap.size, 3, none⟩) (Nat.le_refl _) _).setCell (p := ⟨w.heap.size, 4, none⟩) (Nat.le_refl _) _).setCell (p := ⟨w.heap.size, 5, none⟩) (Nat.le_refl _) _).setCell (p := ⟨w.heap.size, 6, none⟩) (Nat.le_refl _) _).setCell (p := ⟨w.heap.size, 7, none⟩) (Nat.le_refl _) _).setCell (p := ⟨w.heap.size, 8, none⟩) (Nat.le_refl _) _).setCell (p := ⟨w.heap.size, 9, none⟩) (Nat.le_refl _) _
set_option maxHeartbeats 2000000 in
theorem read_yes (b o c : Nat) (a0 a1 a2 a3 a4 a5 a6 a7 k l s d0 d1 d2 d3 d4 m : Int) (w : World) (hs : Src w b o a0 a1 a2 a3 a4 a5 a6 a7)
    (h0 : 0 ≤ a0 ∧ a0 ≤ 18446744073709551615) (h2 : 0 ≤ a2 ∧ a2 ≤ 18446744073709551615) (h3 : 0 ≤ a3 ∧ a3 ≤ 18446744073709551615) (h : Says a0 a2 a3 k l s d0 d1 d2 d3 d4 m) (hr : Rt k l s d0 d1 d2 d3 d4 m) (hq : (wd0 k l s = a0 ∧ wd2 d0 d1 d2 d3 = a2 ∧ wd3 d4 m = a3 ∧ 0 = a4 ∧ 0 = a5 ∧ 0 = a6 ∧ 0 = a7)) :
    Calls Tryz.prog 57 #[.slice (some ⟨b, o, none⟩) 8 c] w fun e w' => e = .returned (.tuple #[.agg #[.int .i64 k, .int .i64 l, .int .i64 s, .int .u64 a1, .int .i64 d0, .int .i64 d1, .int .i64 d2, .int .i64 d3, .int .i64 d4, .int .i64 m], .int .i64 0]) ∧ Below w.heap.size w w' := by
  have HU : Hid (∀ w, Calls Tryz.prog 72 #[.agg #[.int .u64 a0, .int .u64 a1, .int .u64 a2, .int .u64 a3, .int .u64 a4, .int .u64 a5, .int .u64 a6, .int .u64 a7]] w fun e w' => e = .returned (.agg #[.int .i64 k, .int .i64 l, .int .i64 s, .int .u64 a1, .int .i64 d0, .int .i64 d1, .int .i64 d2, .int .i64 d3, .int .i64 d4, .int .i64 m]) ∧ Below w.heap.size w w') := fun w => unlay_any a0 a1 a2 a3 a4 a5 a6 a7 k l s d0 d1 d2 d3 d4 m w h0 h2 h3 h
  have hc := copy_in a0 a1 a2 a3 a4 a5 a6 a7 w b o c #[.int .i64 0, .int .i64 0, .int .i64 0, .int .u64 0, .int .i64 0, .int .i64 0, .int .i64 0, .int .i64 0, .int .i64 0, .int .i64 0] hs
  have HR : Hid (Rt k l s d0 d1 d2 d3 d4 m) := hr
  have HL : Hid (∀ w, Calls Tryz.prog 74 #[.agg #[.int .i64 k, .int .i64 l, .int .i64 s, .int .u64 a1, .int .i64 d0, .int .i64 d1, .int .i64 d2, .int .i64 d3, .int .i64 d4, .int .i64 m]] w fun e w' => e = .returned (.agg #[.int .u64 (wd0 k l s), .int .u64 a1, .int .u64 (wd2 d0 d1 d2 d3), .int .u64 (wd3 d4 m), .int .u64 0, .int .u64 0, .int .u64 0, .int .u64 0]) ∧ Below w.heap.size w w') := fun w => lay_any k l s a1 d0 d1 d2 d3 d4 m w hr
  have he : ∀ w, (Op.equalIn 10000 100 (.agg #[.int .u64 (wd0 k l s), .int .u64 a1, .int .u64 (wd2 d0 d1 d2 d3), .int .u64 (wd3 d4 m), .int .u64 0, .int .u64 0, .int .u64 0, .int .u64 0]) (.agg #[.int .u64 a0, .int .u64 a1, .int .u64 a2, .int .u64 a3, .int .u64 a4, .int .u64 a5, .int .u64 a6, .int .u64 a7])).run Tryz.prog w = .ok true w := fun w => by
    refine (eq_words _ _ _ _ _ _ _ _ _ _ _ _ _ _ _ _ w).trans (congrArg (fun b => Result.ok b w) ?_)
    rw [decide_eq_true_eq]
    exact ⟨hq.1, rfl, hq.2⟩
  obtain ⟨x0, hx0⟩ : ∃ x, wd0 k l s = x := ⟨_, rfl⟩
  obtain ⟨x2, hx2⟩ : ∃ x, wd2 d0 d1 d2 d3 = x := ⟨_, rfl⟩
  obtain ⟨x3, hx3⟩ : ∃ x, wd3 d4 m = x := ⟨_, rfl⟩
  rw [hx0, hx2, hx3] at HL he
  clear hx0 hx2 hx3 hq
  clear h0 h2 h3 h hr hs
  go_enter Tryz.func57, Tryz.ntmps57
  go_wp2_with fail
  clear hc
  obtain ⟨X, hX, XE, XC, XZ⟩ := new_rows w a0 a1 a2 a3 a4 a5 a6 a7
  rw [hX]
  clear hX
  refine Calls.mono (HU.out _) ?_
  rintro e w1 ⟨rfl, bel1⟩
  have BL : Hid (Below X.heap.size X w1) := bel1
  clear bel1 HU
  go_wp2_with fail
  obtain ⟨Y, hY, YS, YE, YC⟩ := new_card w1 k l s a1 d0 d1 d2 d3 d4 m
  rw [hY]
  clear hY
  have HX : Hid (∀ v', Below Y.heap.size Y v' → Below X.heap.size X v') := fun v' hv => below_next BL.out (YE.out v' hv) (Nat.le_refl _)
  obtain ⟨G, hG⟩ : ∃ G, w1.heap.size = G := ⟨_, rfl⟩
  have HCC : Hid (∀ v', Below Y.heap.size Y v' → (v'.cell? ⟨G, 0, none⟩ = some (.int .i64 k) ∧ v'.cell? ⟨G, 1, none⟩ = some (.int .i64 l) ∧ v'.cell? ⟨G, 2, none⟩ = some (.int .i64 s) ∧ v'.cell? ⟨G, 3, none⟩ = some (.int .u64 a1) ∧ v'.cell? ⟨G, 4, none⟩ = some (.int .i64 d0) ∧ v'.cell? ⟨G, 5, none⟩ = some (.int .i64 d1) ∧ v'.cell? ⟨G, 6, none⟩ = some (.int .i64 d2) ∧ v'.cell? ⟨G, 7, none⟩ = some (.int .i64 d3) ∧ v'.cell? ⟨G, 8, none⟩ = some (.int .i64 d4) ∧ v'.cell? ⟨G, 9, none⟩ = some (.int .i64 m)) ∧ (v'.cell? ⟨(w.heap.size + 1), 0, none⟩ = some (.int .u64 a0) ∧ v'.cell? ⟨(w.heap.size + 1), 1, none⟩ = some (.int .u64 a1) ∧ v'.cell? ⟨(w.heap.size + 1), 2, none⟩ = some (.int .u64 a2) ∧ v'.cell? ⟨(w.heap.size + 1), 3, none⟩ = some (.int .u64 a3) ∧ v'.cell? ⟨(w.heap.size + 1), 4, none⟩ = some (.int .u64 a4) ∧ v'.cell? ⟨(w.heap.size + 1), 5, none⟩ = some (.int .u64 a5) ∧ v'.cell? ⟨(w.heap.size + 1), 6, none⟩ = some (.int .u64 a6) ∧ v'.cell? ⟨(w.heap.size + 1), 7, none⟩ = some (.int .u64 a7))) := fun v' hv => ⟨by have := YC.out v' hv; rw [hG] at this; exact this, XC.out v' (HX.out v' hv)⟩
  rw [hG]
  clear hG YC XC
  have bel : Below Y.heap.size Y Y := Below.refl _ _
  obtain ⟨⟨c0, c1, c2, c3, c4, c5, c6, c7, c8, c9⟩, ⟨e0, e1, e2, e3, e4, e5, e6, e7⟩⟩ := HCC.out Y bel
  go_region_with (first
      | (go_at_call 73; refine Calls.mono (right_yes k l s a1 d0 d1 d2 d3 d4 m _ HR.out) ?_; rintro e v1 ⟨rfl, hb⟩; have bel := bel.drew.trans (hb.mono bel.size); clear hb; clear c0 c1 c2 c3 c4 c5 c6 c7 c8 c9 e0 e1 e2 e3 e4 e5 e6 e7; obtain ⟨⟨c0, c1, c2, c3, c4, c5, c6, c7, c8, c9⟩, ⟨e0, e1, e2, e3, e4, e5, e6, e7⟩⟩ := HCC.out _ bel)
      | (go_at_call 74; refine Calls.mono (HL.out _) ?_; rintro e v2 ⟨rfl, hb⟩; have bel := bel.trans (hb.mono bel.size); clear hb; clear c0 c1 c2 c3 c4 c5 c6 c7 c8 c9 e0 e1 e2 e3 e4 e5 e6 e7; obtain ⟨⟨c0, c1, c2, c3, c4, c5, c6, c7, c8, c9⟩, ⟨e0, e1, e2, e3, e4, e5, e6, e7⟩⟩ := HCC.out _ bel))
  all_goals
    have BX : Hid (Below X.heap.size X _) := HX.out _ bel
    have BF : Hid (Below w.heap.size w _) := XE.out _ BX.out
    obtain ⟨z0, z1, z2, z3, z4, z5, z6, z7, z8, z9⟩ := (XZ.out _ BX.out).ten
    have fz := (XZ.out _ BX.out).frozen
    obtain ⟨⟨q0, q1, q2, q3, q4, q5, q6, q7, q8, q9⟩, -⟩ := HCC.out _ bel
    clear c0 c1 c2 c3 c4 c5 c6 c7 c8 c9 e0 e1 e2 e3 e4 e5 e6 e7
    go_wp2
    refine bodyPost_ret (v := .tuple #[.agg #[_, _, _, _, _, _, _, _, _, _], _]) (by simp [results, Tryz.results57, go_sem, z0, z1, z2, z3, z4, z5, z6, z7, z8, z9]) rfl ⟨rfl, ?_⟩
    exact (((((((((BF.out.setCell (p := ⟨w.heap.size, 0, none⟩) (Nat.le_refl _) _).setCell (p := ⟨w.heap.size, 1, none⟩) (Nat.le_refl _) _).setCell (p := ⟨w.heap.size, 2, none⟩) (Nat.le_refl _) _).setCell (p := ⟨w.heap.size, 3, none⟩) (Nat.le_refl _) _).setCell (p := ⟨w.heap.size, 4, none⟩) (Nat.le_refl _) _).setCell (p := ⟨w.heap.size, 5, none⟩) (Nat.le_refl _) _).setCell (p := ⟨w.heap.size, 6, none⟩) (Nat.le_refl _) _).setCell (p := ⟨w.heap.size, 7, none⟩) (Nat.le_refl _) _).setCell (p := ⟨w.heap.size, 8, none⟩) (Nat.le_refl _) _).setCell (p := ⟨w.heap.size, 9, none⟩) (Nat.le_refl _) _

end Go.Proofs.YtomlbifplliakaaGreat.Cd
