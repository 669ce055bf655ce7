/- Contracts of place and written: the changes that a log's words hold. -/
import Derived.Test.YtfalchacdebdpaaSealF
import Derived.Deep.RegionHeld3
namespace Go.Proofs.Ytfalchacdebdpaa
open Go.RowKit Go.Maps Go.ChangeMaps Go.Shelf

set_option maxHeartbeats 1000000 in
theorem place_any (v : Int) (w : World) (h0 : 0 ≤ v) (h1 : v ≤ 18446744073709551615) :
    Calls Try.prog 70 #[.int .u64 v] w fun e w' => e = .returned (.int .i64 (min v 2824)) ∧ w' = w := by
  have hc : IntKind.i64.wrap (min v 2824) = min v 2824 := by rw [IntKind.wrap_i64]; omega
  go_enter Try.func70, Try.ntmps70
  go_wp2_with (first | (go_at_call 76; refine (planSize_any _).mono ?_; rintro e w' ⟨rfl, hw⟩; obtain rfl := hw.symm) | go_in)
  go_ret
  exact ⟨ret_int (by first | exact hc | omega), rfl⟩

/-- The i-th change that a log's words hold. -/
def chgOf (f : Nat → Int) (i : Nat) : Chg := (min (f (8 + 2 * i)) 2824, f (8 + 2 * i + 1))
def chgsOf (f : Nat → Int) (n : Nat) : List Chg := (List.range n).map (chgOf f)
def chgsTo (f : Nat → Int) (n k : Nat) : List Chg := (List.range n).map fun i => if i < k then chgOf f i else (0, 0)
theorem chgsTo_len (f : Nat → Int) (n k : Nat) : (chgsTo f n k).length = n := by simp [chgsTo]
theorem chgsOf_len (f : Nat → Int) (n : Nat) : (chgsOf f n).length = n := by simp [chgsOf]
theorem chgsTo_all (f : Nat → Int) (n : Nat) : chgsTo f n n = chgsOf f n := by
  apply List.ext_getElem (by simp [chgsTo, chgsOf])
  intro i h1 h2
  simp [chgsTo] at h1
  simp [chgsTo, chgsOf, h1]
theorem chgsTo_succ (f : Nat → Int) (n k : Nat) : chgsTo f n (k + 1) = (chgsTo f n k).set k (chgOf f k) := by
  apply List.ext_getElem (by simp [chgsTo])
  intro i h1 h2
  simp [chgsTo] at h1
  by_cases e : k = i
  · subst e; simp [chgsTo]
  · rw [List.getElem_set_ne e]
    have : i < k + 1 ↔ i < k := by omega
    simp [chgsTo, this]
theorem chgVals_set (cs : List Chg) (k : Nat) (c : Chg) : chgVals (cs.set k c) = ((chgVals cs).set (k * 2) (.int .i64 c.1)).set (k * 2 + 1) (.int .u64 c.2) := by
  induction cs generalizing k with
  | nil => simp [chgVals]
  | cons x cs ih =>
    have e : ∀ l : List Chg, ∀ y : Chg, chgVals (y :: l) = .int .i64 y.1 :: .int .u64 y.2 :: chgVals l := fun _ _ => rfl
    cases k with
    | zero => simp [e]
    | succ k =>
      rw [List.set_cons_succ, e, e, ih]
      have e1 : (k + 1) * 2 = k * 2 + 1 + 1 := by omega
      rw [e1]
      simp only [List.set_cons_succ]
theorem chgVals_zeros (n : Nat) (f : Nat → Int) : chgVals (chgsTo f n 0) = (madeCells (Value.agg #[.int .i64 0, .int .u64 0]).cells (n * 2)).toList := by
  have hz : chgsTo f n 0 = List.replicate n (0, 0) := by
    apply List.ext_getElem (by simp [chgsTo])
    intro i h1 h2
    simp [chgsTo]
  have hc : (Value.agg #[.int .i64 0, .int .u64 0]).cells = #[.int .i64 0, .int .u64 0] := rfl
  rw [hz, hc]
  apply List.ext_getElem
  · rw [chgVals_len]; simp [madeCells]
  · intro i h1 h2
    rw [chgVals_len] at h1
    simp only [List.length_replicate] at h1
    have h3 := chgVals_at (List.replicate n (0, 0)) (i / 2) (by simp; omega)
    have hg : (List.replicate n ((0, 0) : Chg)).getD (i / 2) (0, 0) = (0, 0) := by
      rw [List.getD_eq_getElem?_getD, List.getElem?_replicate]; split <;> rfl
    rw [hg] at h3
    have hm : (madeCells #[Value.int .i64 0, Value.int .u64 0] (n * 2)).toList[i] = #[Value.int .i64 0, Value.int .u64 0][i % 2]! := by
      simp [madeCells]
    rw [hm]
    apply Option.some.inj
    rw [← List.getElem?_eq_getElem]
    rcases (show i % 2 = 0 ∨ i % 2 = 1 by omega) with e | e
    · have e2 : i / 2 * 2 = i := by omega
      rw [e2] at h3
      rw [h3.1, e]; rfl
    · have e2 : i / 2 * 2 + 1 = i := by omega
      rw [e2] at h3
      rw [h3.2, e]; rfl

set_option maxHeartbeats 2000000 in
set_option maxRecDepth 100000 in
theorem written_long (b o n c : Nat) (F : Int) (w : World) (hn : 248 ≤ n) (h0 : 120 < F) (_ : F ≤ 18446744073709551615) (x1 : w.cell? ⟨b, o + 1, none⟩ = some (.int .u64 F)) :
    Calls Try.prog 57 #[.slice (some ⟨b, o, none⟩) n c] w fun e w' => e = .returned (.tuple #[.slice none 0 0, .bool false]) ∧ w' = w := by
  go_enter Try.func57, Try.ntmps57
  go_wp2
  go_ret2
  exact ⟨rfl, rfl⟩

set_option maxHeartbeats 2000000 in
set_option maxRecDepth 100000 in
theorem written_short (b o n c m : Nat) (f : Nat → Int) (w : World) (hb : b < w.heap.size) (hn : 248 ≤ n) (hf : ∀ i, i < 248 → 0 ≤ f i ∧ f i ≤ 18446744073709551615) (hc : ∀ i, i < 248 → w.cell? ⟨b, o + i, none⟩ = some (.int .u64 (f i))) (hm : f 1 = (m : Int)) (hm2 : m ≤ 120) :
    Calls Try.prog 57 #[.slice (some ⟨b, o, none⟩) n c] w fun e w' => ∃ v, e = .returned (.tuple #[v, .bool (decide (rightP (chgsOf f m) = 0))]) ∧ OwnChgs w' w.heap.size v (chgsOf f m) ∧ Below w.heap.size w w' := by
  have x1 := hc 1 (by omega)
  have HF : Hid (∀ i, i < 248 → 0 ≤ f i ∧ f i ≤ 18446744073709551615) := hf
  have HC : Hid (∀ i, i < 248 → w.cell? ⟨b, o + i, none⟩ = some (.int .u64 (f i))) := hc
  obtain ⟨i0, hi, hz0, hz1, hz2⟩ := info_parts Try.info40
  rw [hm] at x1
  have hpl := place_any
  clear hf hc hm
  go_enter Try.func57, Try.ntmps57
  go_wp2_with (first
    | (at_make; refine wpList_make_full _ rfl _ _ 23 rfl w.heap.size 40 i0 (.agg #[.int .i64 0, .int .u64 0]) 2 Try.underlying23 hi hz0 hz1 _ _ _ _ m rfl rfl rfl rfl (by rw [hz2]; omega) (by unfold maxLen; omega) (Nat.le_refl _) ?_; intro w0 hown0 hgrow0)
    | go_in)
  rw [← chgVals_zeros m f] at hown0
  have b0 : Below w.heap.size w w0 := (Below.refl _ _).grown hgrow0 (Nat.le_refl _) (fun k h => by cases h)
  go_loopw [17] (fun i wr => ∃ k : Nat, k ≤ m ∧ i = .int .i64 k ∧ wr.ownsRow w.heap.size 40 2 (.slice (some ⟨w.heap.size, 0, none⟩) m m) m (chgVals (chgsTo f m k)) ∧ Below w.heap.size w wr) (fun i _ => m - (intOf i).toNat)
  case atStart => exact ⟨0, Nat.zero_le _, rfl, hown0, b0⟩
  case round =>
    obtain ⟨k, hk, rfl, hown, hnx⟩ := hrel
    by_cases hlt : k < m
    · have y1 := (hnx.cell (p := ⟨b, o + (8 + 2 * k), none⟩) hb).trans (HC.out (8 + 2 * k) (by omega))
      have y2 := (hnx.cell (p := ⟨b, o + (8 + 2 * k + 1), none⟩) hb).trans (HC.out (8 + 2 * k + 1) (by omega))
      have r1 := HF.out (8 + 2 * k) (by omega)
      have HS : Hid (chgVals (chgsTo f m (k + 1)) = ((chgVals (chgsTo f m k)).set (k * 2) (.int .i64 (min (f (8 + 2 * k)) 2824))).set (k * 2 + 1) (.int .u64 (f (8 + 2 * k + 1)))) := by
        rw [chgsTo_succ, chgVals_set]; rfl
      have hcl := chgsTo_len f m k
      have z0 := chgVals_at (chgsTo f m k) k (by omega)
      have c0 := (World.ownsRow.cellAt hown (k * 2) (by omega)).trans z0.1
      have c1 := (World.ownsRow.cellAt hown (k * 2 + 1) (by omega)).trans z0.2
      clear z0 hcl
      have hf0 : wr.frozen? ⟨w.heap.size, k * 2, none⟩ = false := World.ownsRow.frozenAt hown _
      have hf1 : wr.frozen? ⟨w.heap.size, k * 2 + 1, none⟩ = false := World.ownsRow.frozenAt hown _
      obtain ⟨X, hX⟩ : ∃ X, f (8 + 2 * k) = X := ⟨_, rfl⟩
      obtain ⟨Y, hY⟩ : ∃ Y, f (8 + 2 * k + 1) = Y := ⟨_, rfl⟩
      rw [hX] at y1 r1 HS
      rw [hY] at y2 HS
      obtain ⟨r10, r11⟩ := r1
      clear hX hY
      obtain ⟨q, hq⟩ : ∃ q : Nat, q = 8 + 2 * k := ⟨_, rfl⟩
      obtain ⟨r, hr⟩ : ∃ r : Nat, r = 8 + 2 * k + 1 := ⟨_, rfl⟩
      rw [← hq] at y1
      rw [← hr] at y2
      have i1 : 8 + 2 * (k : Int) = (q : Int) := by omega
      have i2 : (q : Int) < (n : Int) := by omega
      have i3 : (q : Int) + 1 = (r : Int) := by omega
      have i4 : (r : Int) < (n : Int) := by omega
      have i6 : (0 : Int) ≤ (k : Int) := by omega
      have i5 : IntKind.i64.wrap (r : Int) = (r : Int) := by rw [IntKind.wrap_i64]; omega
      have i5' : wrap64 (r : Int) = (r : Int) := by unfold wrap64; omega
      have i7 : (k : Int) < (m : Int) := by omega
      have nb : ¬ b = w.heap.size := by omega
      have nb2 : ¬ w.heap.size = b := by omega
      have HQ : Hid (q = 8 + 2 * k) := hq
      have HR : Hid (r = 8 + 2 * k + 1) := hr
      clear hq hr
      go_wp2
      go_region_held3 (fun v : World => v.cell? ⟨b, o + q, none⟩ = some (.int .u64 X) ∧ v.cell? ⟨b, o + r, none⟩ = some (.int .u64 Y)) (go_keep) (first
        | (go_at_call 70; refine (hpl _ _ r10 r11).mono ?_; rintro e w' ⟨rfl, hw⟩; obtain rfl := hw.symm)
        | go_keep)
      have hown2 : (((wr.setCell ⟨w.heap.size, k * 2, none⟩ (.int .i64 (min X 2824))).setCell ⟨w.heap.size, k * 2 + 1, none⟩ (.int .u64 Y)).drew).ownsRow w.heap.size 40 2 (.slice (some ⟨w.heap.size, 0, none⟩) m m) m (chgVals (chgsTo f m (k + 1))) := by
        rw [HS.out]
        exact World.ownsRow.drew (World.ownsRow.stored (World.ownsRow.stored hown (k * 2) _).1 (k * 2 + 1) _).1
      have hnx2 : Below w.heap.size w (((wr.setCell ⟨w.heap.size, k * 2, none⟩ (.int .i64 (min X 2824))).setCell ⟨w.heap.size, k * 2 + 1, none⟩ (.int .u64 Y)).drew) := ((hnx.setCell (Nat.le_refl _) _).setCell (Nat.le_refl _) _).drew
      clear i1 i3
      go_wp2
      go_roundw
      case rel => exact ⟨k + 1, by omega, by go_num, hown2, hnx2⟩
      case measure => simp [intOf]; omega
    · obtain rfl : k = m := by omega
      have hown2 : OwnChgs wr w.heap.size (.slice (some ⟨w.heap.size, 0, none⟩) k k) (chgsOf f k) := by
        unfold OwnChgs
        rw [chgsOf_len, ← chgsTo_all]; exact hown
      obtain ⟨a, c2, ea, -, at1, -⟩ := hown2.at
      simp only [Value.slice.injEq] at ea
      obtain ⟨rfl, -, rfl⟩ := ea
      have hok : ChgOk (chgsOf f k) := by
        intro i hi
        rw [chgsOf_len] at hi
        have r1 := HF.out (8 + 2 * i) (by omega)
        have r2 := HF.out (8 + 2 * i + 1) (by omega)
        have e : (chgsOf f k).getD i (0, 0) = chgOf f i := by simp [chgsOf, hi]
        rw [e]
        exact ⟨WalkArith.wf_i64 (by unfold chgOf; dsimp only; omega), WalkArith.wf_u64 r2⟩
      have hr := right7_any (some ⟨w.heap.size, 0, none⟩) k (chgsOf f k) wr at1 hok
      rw [chgsOf_len] at hr
      obtain ⟨rp, hrp⟩ : ∃ rp, rightP (chgsOf f k) = rp := ⟨_, rfl⟩
      rw [hrp] at hr
      have HRP : Hid (rightP (chgsOf f k) = rp) := hrp
      have HRT : Hid (Calls Try.prog 11 #[.slice (some ⟨w.heap.size, 0, none⟩) k k] wr fun e w' => e = .returned (.int .i64 rp) ∧ Below wr.heap.size wr w') := hr
      have HO2 : Hid (OwnChgs wr w.heap.size (.slice (some ⟨w.heap.size, 0, none⟩) k k) (chgsOf f k)) := hown2
      clear hr hok at1 hown hown2 hrp
      go_wp2_with (first | (go_at_call 11; refine Calls.mono (Hid.out HRT) ?_; rintro e w2 ⟨rfl, b2⟩) | go_in)
      go_ret2
      refine ⟨_, ?_, HO2.out.later (Nat.le_refl _) b2, hnx.trans (b2.mono hnx.size)⟩
      rw [HRP.out]
      exact rfl

end Go.Proofs.Ytfalchacdebdpaa
