/- The document's own map of a card over words. -/
import Derived.Test.YtdjnkibnnjobpaaBdMa
namespace Go.Proofs.Ytdjnkibnnjobpaa
open Go.RowKit Go.Maps Go.ChangeMaps

theorem rowV_snoc (f : Nat → Int) (n : Nat) (x : Int) (h : f n = x) : rowV f n ++ [.int .i64 x] = rowV f (n + 1) := by
  apply List.ext_getElem?
  intro i
  by_cases e : i < n
  · rw [List.getElem?_append_left (by rw [rowV_len]; exact e), rowV_at _ _ _ e, rowV_at _ _ _ (by omega)]
  · rw [List.getElem?_append_right (by rw [rowV_len]; omega), rowV_len]
    by_cases e2 : i = n
    · subst e2
      rw [Nat.sub_self, rowV_at _ _ _ (by omega), h]
      rfl
    · rw [rowV_out _ _ _ (by omega), List.getElem?_eq_none (by simp; omega)]
theorem own_ints {w : World} {B n : Nat} {v : Value} {f : Nat → Int} (h : w.ownsRow B 3 1 v n (rowV f n)) (hn : 0 < n) : ∃ g c, v = .slice (some ⟨g, 0, none⟩) n c ∧ n ≤ c ∧ c ≤ maxLen ∧ B ≤ g ∧ IntsAt w (some ⟨g, 0, none⟩) n f := by
  have h' := h
  obtain ⟨h0, h1⟩ := h
  rcases h1 with ⟨_, h2⟩ | ⟨g, cap, cur, rfl, h2, h3, h4, h5, _⟩
  · omega
  · refine ⟨g, cap, rfl, h4, h5, h2, .inr ⟨g, 0, rfl, (Array.getElem?_eq_some_iff.1 h3).1, fun i hi => ?_⟩⟩
    rw [Nat.zero_add, h'.cellAt _ (by omega)]
    exact rowV_at f n i hi
/-- What the document's Map answers. -/
def RMapTo (w w' : World) (e : Ending) (F : Nat → Int) (B : Bool) : Prop :=
  (B = true ∧ ∃ g c, e = .returned (.tuple #[.slice (some ⟨g, 0, none⟩) 21 c, .bool true]) ∧ 21 ≤ c ∧ c ≤ maxLen ∧ w.heap.size ≤ g ∧ IntsAt w' (some ⟨g, 0, none⟩) 21 F) ∨ (B = false ∧ ∃ a n c, e = .returned (.tuple #[.slice a n c, .bool false]))
/-- Is one of the first j words not 0? -/
def anyW (W : Nat → Int) (j : Nat) : Bool := decide (∃ i, i < j ∧ W i ≠ 0)
theorem anyW_zero (W : Nat → Int) : anyW W 0 = false := by
  unfold anyW
  rw [decide_eq_false_iff_not]
  rintro ⟨i, h, _⟩
  omega
theorem anyW_succ (W : Nat → Int) (j : Nat) : anyW W (j + 1) = (anyW W j || decide (W j ≠ 0)) := by
  unfold anyW
  rw [Bool.eq_iff_iff, Bool.or_eq_true, decide_eq_true_iff, decide_eq_true_iff, decide_eq_true_iff]
  constructor
  · rintro ⟨i, h1, h2⟩
    by_cases e : i = j
    · subst e; exact .inr h2
    · exact .inl ⟨i, by omega, h2⟩
  · rintro (⟨i, h1, h2⟩ | h)
    · exact ⟨i, by omega, h2⟩
    · exact ⟨j, by omega, h⟩
theorem box_cells {w : World} {b : Nat} {k l s v d0 d1 d2 d3 d4 m : Int} (h : CardAt w b k l s v d0 d1 d2 d3 d4 m) : (∀ i, i < 5 → w.cell? ⟨b, 4 + i, none⟩ = some (.int .i64 (dirF d0 d1 d2 d3 d4 i))) ∧ w.cell? ⟨b, 9, none⟩ = some (.int .i64 m) := by
  constructor
  · intro i hi
    rw [cell_of_row w b (4 + i) _ _ _ h]
    match i, hi with
    | 0, _ => rfl
    | 1, _ => rfl
    | 2, _ => rfl
    | 3, _ => rfl
    | 4, _ => rfl
  · rw [cell_of_row w b 9 _ _ _ h]; rfl
set_option maxHeartbeats 4000000 in
set_option maxRecDepth 100000 in
theorem rmap_any (rb nb nc : Nat) (f : Nat → Int) (k l s v d0 d1 d2 d3 d4 m : Int) (w : World) (h : RV w rb nb nc f) (hf : ∀ i, i < 2824 → 0 ≤ f i) (m0 : -1 ≤ m) (m1 : m < 96) (W : Int → Int) (hW : ∀ i : Nat, i < 2824 → W (i : Int) = f i) (B : Bool)
    (hB : B = true ↔ m = -1 ∨ (∀ i : Nat, i < 16 → W (1288 + 16 * m + (i : Int)) ≤ 96) ∧ ∃ i : Nat, i < 16 ∧ W (1288 + 16 * m + (i : Int)) ≠ 0) :
    Calls Try.prog 12 #[.pointer (some ⟨rb, 0, none⟩), .agg #[.int .i64 k, .int .i64 l, .int .i64 s, .int .u64 v, .int .i64 d0, .int .i64 d1, .int .i64 d2, .int .i64 d3, .int .i64 d4, .int .i64 m]] w fun e w' => RMapTo w w' e (mapF W d0 d1 d2 d3 d4 m) B ∧ Below w.heap.size w w' := by
  obtain ⟨i0, hi0, hz0, hz1, hz2⟩ := info_parts Try.info3v
  have HV : Hid (RV w rb nb nc f) := h
  have HBB : Hid (B = true ↔ m = -1 ∨ (∀ i : Nat, i < 16 → W (1288 + 16 * m + (i : Int)) ≤ 96) ∧ ∃ i : Nat, i < 16 ∧ W (1288 + 16 * m + (i : Int)) ≠ 0) := hB
  have HFW : Hid (∀ i : Nat, i < 2824 → W (i : Int) = f i ∧ 0 ≤ f i) := fun i hi => ⟨hW i hi, hf i hi⟩
  obtain ⟨D, hD⟩ : ∃ D, dirF d0 d1 d2 d3 d4 = D := ⟨_, rfl⟩
  have HD : Hid (dirF d0 d1 d2 d3 d4 = D) := hD
  clear h hf hW hB hD
  go_enter Try.func12, Try.ntmps12
  go_wp2_with fail
  obtain ⟨X, hX⟩ : ∃ X, w.alloc (.cells #[.int .i64 k, .int .i64 l, .int .i64 s, .int .u64 v, .int .i64 d0, .int .i64 d1, .int .i64 d2, .int .i64 d3, .int .i64 d4, .int .i64 m] 26) = X := ⟨_, rfl⟩
  have hca : CardAt X w.heap.size k l s v d0 d1 d2 d3 d4 m := by rw [← hX]; exact heap_alloc_new _ _
  have hxs : X.heap.size = w.heap.size + 1 := by rw [← hX]; simp
  have HCA : Hid (CardAt X w.heap.size k l s v d0 d1 d2 d3 d4 m) := hca
  have HBX : Hid (Below w.heap.size w X) := by show Below _ _ _; rw [← hX]; exact (Below.refl _ _).alloc (Nat.le_refl _) _
  have HXS : Hid (X.heap.size = w.heap.size + 1) := hxs
  rw [hX]
  clear hX hca hxs
  have HFA : Hid (∀ u, Below X.heap.size X u → (∀ i, i < 5 → u.cell? ⟨w.heap.size, 4 + i, none⟩ = some (.int .i64 (D i))) ∧ u.cell? ⟨w.heap.size, 9, none⟩ = some (.int .i64 m)) := fun u hb => by
    have := box_cells (HCA.out.later hb)
    rw [HD.out] at this
    exact this
  obtain ⟨bx, hbx⟩ : ∃ x, w.heap.size = x := ⟨_, rfl⟩
  rw [hbx] at HFA
  rw [hbx]
  have HBXE : Hid (w.heap.size = bx) := hbx
  clear hbx
  go_loopw [6, 7] (fun o i wr => ∃ (j : Nat) (ov : Value), ov = o ∧ j ≤ 5 ∧ i = .int .i64 j ∧ Hid (wr.ownsRow X.heap.size 3 1 ov j (rowV D j)) ∧ Hid (Below X.heap.size X wr)) (fun _ i _ => 5 - (intOf i).toNat)
  case atStart => exact ⟨0, _, rfl, Nat.zero_le _, rfl, World.ownsRow_nil _ _ _ _, Below.refl _ _⟩
  case round =>
    obtain ⟨j, ov, rfl, hj, rfl, HO, HB⟩ := hrel
    by_cases hlt : j < 5
    · have hjn : (j : Int) < 5 := by omega
      have x1 := (HFA.out wr HB.out).1 j hlt
      have HO' := HO.out
      obtain ⟨Z, hZ⟩ : ∃ Z, D j = Z := ⟨_, rfl⟩
      have HZ : Hid (D j = Z) := hZ
      rw [hZ] at x1
      clear hZ
      have hnx := HB.out
      clear HO
      go_wp2_with (first
        | (at_builtin; refine wpList_append_own_at _ rfl _ _ 27 rfl X.heap.size 3 i0 (.int .i64 0) 1 8 Try.underlying27 hi0 hz0 hz1 hz2 rfl (by decide) _ _ _ rfl (World.ownsRow.alloc HO' _) ⟨_, 0, none⟩ 1 1 [.int .i64 Z] rfl rfl ?c1 ?c2 ?c3 ?c4 ?c5 ?_)
        | go_in)
      case c1 => exact cell_one_new _ _ _
      case c2 => intro u hu; simp at hu; subst hu; rfl
      case c3 => unfold maxLen; omega
      case c4 => omega
      case c5 => have := hnx.size; simp; omega
      intro v' w2 hown' hgrow _ _
      have HB2 : Hid (Below X.heap.size X w2) := (hnx.alloc hnx.size _).grown hgrow (by have := hnx.size; simp; omega) (fun q h => (World.ownsRow.lt HO' q h).1)
      have HO2 : Hid (w2.ownsRow X.heap.size 3 1 v' (j + 1) (rowV D (j + 1))) := by
        show World.ownsRow _ _ _ _ _ _ _
        rw [← rowV_snoc D j Z HZ.out]
        exact hown'
      clear hown' hgrow HO' hnx x1
      go_wp2
      go_roundw
      case rel => exact ⟨j + 1, _, rfl, by omega, by go_num, HO2, HB2⟩
      case measure => simp [intOf]; omega
    · have hjn : ¬ (j : Int) < 5 := by omega
      obtain rfl : j = 5 := by omega
      have x9 := (HFA.out wr HB.out).2
      by_cases hm : m < 0
      · obtain rfl : m = -1 := by omega
        have hBt : B = true := HBB.out.2 (.inl rfl)
        subst hBt
        have HO2 : Hid (wr.ownsRow X.heap.size 3 1 ov (5 + 0) (rowV (mapF W d0 d1 d2 d3 d4 (-1)) (5 + 0))) := by
          show World.ownsRow _ _ _ _ _ _ _
          have e : rowV (mapF W d0 d1 d2 d3 d4 (-1)) (5 + 0) = rowV D 5 := by
            apply rowV_ext
            · rw [rowV_len]
            · intro i hi
              rw [rowV_at _ _ i (by omega)]
              unfold mapF
              rw [if_pos (by omega), HD.out]
          rw [e]; exact HO.out
        clear HO
        go_wp2
        go_loopw [6, 8, 9] (fun o2 sm i w2 => ∃ (j : Nat) (ov2 : Value), ov2 = o2 ∧ j ≤ 16 ∧ i = .int .i64 j ∧ sm = .bool true ∧ Hid (w2.ownsRow X.heap.size 3 1 ov2 (5 + j) (rowV (mapF W d0 d1 d2 d3 d4 (-1)) (5 + j))) ∧ Hid (Below X.heap.size X w2)) (fun _ _ i _ => 16 - (intOf i).toNat)
        case atStart => exact ⟨0, _, rfl, Nat.zero_le _, rfl, rfl, HO2, HB⟩
        case round =>
          obtain ⟨q, ov2, rfl, hq, rfl, rfl, HO, HB⟩ := hrel
          by_cases hlt2 : q < 16
          · have hqn : (q : Int) < 16 := by omega
            have x9 := (HFA.out _ HB.out).2
            have HO' := HO.out
            have HZ : Hid (mapF W d0 d1 d2 d3 d4 (-1) (5 + q) = -1) := by
              show _ = _
              unfold mapF
              rw [if_neg (by omega), if_pos rfl]
            have hnx := HB.out
            clear HO
            go_wp2_with (first
              | (at_builtin; refine wpList_append_own_at _ rfl _ _ 27 rfl X.heap.size 3 i0 (.int .i64 0) 1 8 Try.underlying27 hi0 hz0 hz1 hz2 rfl (by decide) _ _ _ rfl (World.ownsRow.alloc HO' _) ⟨_, 0, none⟩ 1 1 [.int .i64 (-1)] rfl rfl ?c1 ?c2 ?c3 ?c4 ?c5 ?_)
              | go_in)
            case c1 => exact cell_one_new _ _ _
            case c2 => intro u hu; simp at hu; subst hu; rfl
            case c3 => unfold maxLen; omega
            case c4 => omega
            case c5 => have := hnx.size; simp; omega
            intro v' w3 hown' hgrow _ _
            have HB2 : Hid (Below X.heap.size X w3) := (hnx.alloc hnx.size _).grown hgrow (by have := hnx.size; simp; omega) (fun q h => (World.ownsRow.lt HO' q h).1)
            have HO2 : Hid (w3.ownsRow X.heap.size 3 1 v' (5 + (q + 1)) (rowV (mapF W d0 d1 d2 d3 d4 (-1)) (5 + (q + 1)))) := by
              show World.ownsRow _ _ _ _ _ _ _
              rw [show 5 + (q + 1) = 5 + q + 1 by omega, ← rowV_snoc _ (5 + q) (-1) HZ.out]
              exact hown'
            clear hown' hgrow HO' hnx x9
            go_wp2
            go_roundw
            case rel => exact ⟨q + 1, _, rfl, by omega, by go_num, rfl, HO2, HB2⟩
            case measure => simp [intOf]; omega
          · have hqn : ¬ (q : Int) < 16 := by omega
            obtain rfl : q = 16 := by omega
            obtain ⟨g, c, rfl, hc, hcm, hg, hI⟩ := own_ints HO.out (by omega)
            have HE : Hid (21 ≤ c ∧ c ≤ maxLen ∧ X.heap.size ≤ g) := ⟨hc, hcm, hg⟩
            have HI : Hid (IntsAt _ (some ⟨g, 0, none⟩) 21 (mapF W d0 d1 d2 d3 d4 (-1))) := hI
            clear hc hcm hg hI
            go_wp2
            go_ret2
            have hz := HXS.out
            have hy := HBXE.out
            exact ⟨.inl ⟨rfl, g, c, rfl, HE.out.1, HE.out.2.1, by have := HE.out.2.2; omega, HI.out⟩, HBX.out.trans (HB.out.mono HBX.out.size)⟩
      · have hm0 : 0 ≤ m := by omega
        have hmn : ¬ m = -1 := by omega
        obtain ⟨Wm, hWm⟩ : ∃ Wm : Nat → Int, (fun i : Nat => W (1288 + 16 * m + (i : Int))) = Wm := ⟨_, rfl⟩
        have HWM : Hid (∀ i : Nat, i < 16 → W (1288 + 16 * m + (i : Int)) = Wm i ∧ 0 ≤ Wm i) := fun i hi => by
          have e : W (1288 + 16 * m + (i : Int)) = Wm i := by rw [← hWm]
          have := HFW.out ((1288 + 16 * m).toNat + i) (by omega)
          rw [show (((1288 + 16 * m).toNat + i : Nat) : Int) = 1288 + 16 * m + (i : Int) by omega, e] at this
          exact ⟨e, by rw [this.1]; exact this.2⟩
        have HRDD : Hid (∀ u (q : Nat), q < 16 → Below X.heap.size X u → Calls Try.prog 32 #[.pointer (some ⟨rb, 0, none⟩), .int .i64 (1288 + 16 * m + (q : Int))] u fun e w' => e = .returned (.int .u64 (Wm q)) ∧ w' = u) := fun u q hq hb => by
          have := rv_read u rb nb nc f ((1288 + 16 * m).toNat + q) (HV.out.later (HBX.out.trans (hb.mono HBX.out.size))) (by omega)
          have e := (HFW.out ((1288 + 16 * m).toNat + q) (by omega)).1
          rw [← e, show (((1288 + 16 * m).toNat + q : Nat) : Int) = 1288 + 16 * m + (q : Int) by omega, (HWM.out q hq).1] at this
          exact this
        have HBM : Hid (B = true ↔ (∀ i, i < 16 → Wm i ≤ 96) ∧ anyW Wm 16 = true) := by
          show _ ↔ _
          rw [HBB.out]
          unfold anyW
          rw [decide_eq_true_iff]
          constructor
          · rintro (x | ⟨x, i, hi, y⟩)
            · exact absurd x hmn
            · exact ⟨fun i hi => by rw [← (HWM.out i hi).1]; exact x i hi, i, hi, by rw [← (HWM.out i hi).1]; exact y⟩
          · rintro ⟨x, i, hi, y⟩
            exact .inr ⟨fun i hi => by rw [(HWM.out i hi).1]; exact x i hi, i, hi, by rw [(HWM.out i hi).1]; exact y⟩
        have HO2 : Hid (wr.ownsRow X.heap.size 3 1 ov (5 + 0) (rowV (mapF W d0 d1 d2 d3 d4 m) (5 + 0))) := by
          show World.ownsRow _ _ _ _ _ _ _
          have e : rowV (mapF W d0 d1 d2 d3 d4 m) (5 + 0) = rowV D 5 := by
            apply rowV_ext
            · rw [rowV_len]
            · intro i hi
              rw [rowV_at _ _ i (by omega)]
              unfold mapF
              rw [if_pos (by omega), HD.out]
          rw [e]; exact HO.out
        clear HO hWm
        go_wp2
        go_loopw [6, 8, 9] (fun o2 sm i w2 => ∃ (q : Nat) (ov2 : Value), ov2 = o2 ∧ q ≤ 16 ∧ i = .int .i64 q ∧ sm = .bool (anyW Wm q) ∧ Hid (∀ i, i < q → Wm i ≤ 96) ∧ Hid (w2.ownsRow X.heap.size 3 1 ov2 (5 + q) (rowV (mapF W d0 d1 d2 d3 d4 m) (5 + q))) ∧ Hid (Below X.heap.size X w2)) (fun _ _ i _ => 16 - (intOf i).toNat)
        case atStart => exact ⟨0, _, rfl, Nat.zero_le _, rfl, by rw [anyW_zero], fun i hi => by omega, HO2, HB⟩
        case round =>
          obtain ⟨q, ov2, rfl, hq, rfl, rfl, HL, HO, HB⟩ := hrel
          by_cases hlt2 : q < 16
          · have hqn : (q : Int) < 16 := by omega
            have x9 := (HFA.out _ HB.out).2
            have HO' := HO.out
            have HRD : Hid _ := HRDD.out _ q hlt2 HB.out
            have hY0 := (HWM.out q hlt2).2
            have HMF : Hid (mapF W d0 d1 d2 d3 d4 m (5 + q) = Wm q - 1) := by
              show _ = _
              unfold mapF
              rw [if_neg (by omega), if_neg hmn, show 5 + q - 5 = q by omega, (HWM.out q hlt2).1]
            have has := anyW_succ Wm q
            have HLQ : Hid (Wm q ≤ 96 → ∀ i, i < q + 1 → Wm i ≤ 96) := fun hy i hi => by
              by_cases e : i = q
              · subst e; exact hy
              · exact HL.out i (by omega)
            have HBF : Hid (¬ Wm q ≤ 96 → B = false) := fun hy => by
              rw [Bool.eq_false_iff]
              intro hb
              exact hy ((HBM.out.1 hb).1 q hlt2)
            obtain ⟨Y, hY⟩ : ∃ Y, Wm q = Y := ⟨_, rfl⟩
            obtain ⟨b0, hb0⟩ : ∃ b, anyW Wm q = b := ⟨_, rfl⟩
            rw [hY] at HRD hY0 HMF has HLQ HBF
            rw [hb0] at has
            rw [hb0]
            have hnx := HB.out
            clear HO hY hb0
            by_cases hY96 : Y ≤ 96
            · have hYn : ¬ (96 : Int) < Y := by omega
              have HL2 : Hid (∀ i, i < q + 1 → Wm i ≤ 96) := HLQ.out hY96
              have hwY : IntKind.i64.wrap Y = Y := by rw [IntKind.wrap_i64]; omega
              cases b0 with
              | true =>
                have HAS : Hid (anyW Wm (q + 1) = true) := by rw [has]; rfl
                clear has
                go_wp2_with (first
                  | (go_at_call 32; refine Calls.mono (Hid.out HRD) ?_; rintro e w' ⟨rfl, hw⟩; obtain rfl := hw.symm)
                  | (at_builtin; refine wpList_append_own_at _ rfl _ _ 27 rfl X.heap.size 3 i0 (.int .i64 0) 1 8 Try.underlying27 hi0 hz0 hz1 hz2 rfl (by decide) _ _ _ rfl (World.ownsRow.alloc HO' _) ⟨_, 0, none⟩ 1 1 [.int .i64 (Y - 1)] rfl rfl ?c1 ?c2 ?c3 ?c4 ?c5 ?_)
                  | go_in)
                case c1 => exact cell_one_new _ _ _
                case c2 => intro u hu; simp at hu; subst hu; rfl
                case c3 => unfold maxLen; omega
                case c4 => omega
                case c5 => have := hnx.size; simp; omega
                intro v' w3 hown' hgrow _ _
                have HB2 : Hid (Below X.heap.size X w3) := (hnx.alloc hnx.size _).grown hgrow (by have := hnx.size; simp; omega) (fun q h => (World.ownsRow.lt HO' q h).1)
                have HO2 : Hid (w3.ownsRow X.heap.size 3 1 v' (5 + (q + 1)) (rowV (mapF W d0 d1 d2 d3 d4 m) (5 + (q + 1)))) := by
                  show World.ownsRow _ _ _ _ _ _ _
                  rw [show 5 + (q + 1) = 5 + q + 1 by omega, ← rowV_snoc _ (5 + q) (Y - 1) HMF.out]
                  exact hown'
                clear hown' hgrow HO' hnx x9
                go_wp2
                go_roundw
                case rel => exact ⟨q + 1, _, rfl, by omega, by go_num, by first | (rw [HAS.out]; done) | (rw [HAS.out, decide_eq_false (by omega)]), HL2, HO2, HB2⟩
                case measure => simp [intOf]; omega
              | false =>
                by_cases hYz : Y = 0
                · have HAS : Hid (anyW Wm (q + 1) = false) := by rw [has, hYz]; rfl
                  have hYp : ¬ (0 : Int) < Y := by omega
                  clear has hYz
                  go_wp2_with (first
                    | (go_at_call 32; refine Calls.mono (Hid.out HRD) ?_; rintro e w' ⟨rfl, hw⟩; obtain rfl := hw.symm)
                    | (at_builtin; refine wpList_append_own_at _ rfl _ _ 27 rfl X.heap.size 3 i0 (.int .i64 0) 1 8 Try.underlying27 hi0 hz0 hz1 hz2 rfl (by decide) _ _ _ rfl (World.ownsRow.alloc HO' _) ⟨_, 0, none⟩ 1 1 [.int .i64 (Y - 1)] rfl rfl ?c1 ?c2 ?c3 ?c4 ?c5 ?_)
                    | go_in)
                  case c1 => exact cell_one_new _ _ _
                  case c2 => intro u hu; simp at hu; subst hu; rfl
                  case c3 => unfold maxLen; omega
                  case c4 => omega
                  case c5 => have := hnx.size; simp; omega
                  intro v' w3 hown' hgrow _ _
                  have HB2 : Hid (Below X.heap.size X w3) := (hnx.alloc hnx.size _).grown hgrow (by have := hnx.size; simp; omega) (fun q h => (World.ownsRow.lt HO' q h).1)
                  have HO2 : Hid (w3.ownsRow X.heap.size 3 1 v' (5 + (q + 1)) (rowV (mapF W d0 d1 d2 d3 d4 m) (5 + (q + 1)))) := by
                    show World.ownsRow _ _ _ _ _ _ _
                    rw [show 5 + (q + 1) = 5 + q + 1 by omega, ← rowV_snoc _ (5 + q) (Y - 1) HMF.out]
                    exact hown'
                  clear hown' hgrow HO' hnx x9
                  go_wp2
                  go_roundw
                  case rel => exact ⟨q + 1, _, rfl, by omega, by go_num, by first | (rw [HAS.out]; done) | (rw [HAS.out, decide_eq_false (by omega)]), HL2, HO2, HB2⟩
                  case measure => simp [intOf]; omega
                · have HAS : Hid (anyW Wm (q + 1) = true) := by rw [has, decide_eq_true hYz]; rfl
                  have hYp : (0 : Int) < Y := by omega
                  clear has hYz
                  go_wp2_with (first
                    | (go_at_call 32; refine Calls.mono (Hid.out HRD) ?_; rintro e w' ⟨rfl, hw⟩; obtain rfl := hw.symm)
                    | (at_builtin; refine wpList_append_own_at _ rfl _ _ 27 rfl X.heap.size 3 i0 (.int .i64 0) 1 8 Try.underlying27 hi0 hz0 hz1 hz2 rfl (by decide) _ _ _ rfl (World.ownsRow.alloc HO' _) ⟨_, 0, none⟩ 1 1 [.int .i64 (Y - 1)] rfl rfl ?c1 ?c2 ?c3 ?c4 ?c5 ?_)
                    | go_in)
                  case c1 => exact cell_one_new _ _ _
                  case c2 => intro u hu; simp at hu; subst hu; rfl
                  case c3 => unfold maxLen; omega
                  case c4 => omega
                  case c5 => have := hnx.size; simp; omega
                  intro v' w3 hown' hgrow _ _
                  have HB2 : Hid (Below X.heap.size X w3) := (hnx.alloc hnx.size _).grown hgrow (by have := hnx.size; simp; omega) (fun q h => (World.ownsRow.lt HO' q h).1)
                  have HO2 : Hid (w3.ownsRow X.heap.size 3 1 v' (5 + (q + 1)) (rowV (mapF W d0 d1 d2 d3 d4 m) (5 + (q + 1)))) := by
                    show World.ownsRow _ _ _ _ _ _ _
                    rw [show 5 + (q + 1) = 5 + q + 1 by omega, ← rowV_snoc _ (5 + q) (Y - 1) HMF.out]
                    exact hown'
                  clear hown' hgrow HO' hnx x9
                  go_wp2
                  go_roundw
                  case rel => exact ⟨q + 1, _, rfl, by omega, by go_num, by first | (rw [HAS.out]; done) | (rw [HAS.out, decide_eq_false (by omega)]), HL2, HO2, HB2⟩
                  case measure => simp [intOf]; omega
            · have hYn : (96 : Int) < Y := by omega
              have hBf : B = false := HBF.out hY96
              subst hBf
              clear hnx has hY96
              go_wp2_with (first
                | (go_at_call 32; refine Calls.mono (Hid.out HRD) ?_; rintro e w' ⟨rfl, hw⟩; obtain rfl := hw.symm)
                | go_in)
              go_ret2
              exact ⟨.inr ⟨rfl, _, _, _, rfl⟩, HBX.out.trans (HB.out.mono HBX.out.size)⟩
          · have hqn : ¬ (q : Int) < 16 := by omega
            obtain rfl : q = 16 := by omega
            obtain ⟨g, c, rfl, hc, hcm, hg, hI⟩ := own_ints HO.out (by omega)
            have HE : Hid (21 ≤ c ∧ c ≤ maxLen ∧ X.heap.size ≤ g) := ⟨hc, hcm, hg⟩
            have HI : Hid (IntsAt _ (some ⟨g, 0, none⟩) 21 (mapF W d0 d1 d2 d3 d4 m)) := hI
            clear hc hcm hg hI
            obtain ⟨b0, hb0⟩ : ∃ b, anyW Wm 16 = b := ⟨_, rfl⟩
            have hBM := HBM.out
            rw [hb0] at hBM
            rw [hb0]
            have hBb : B = b0 := by
              rw [Bool.eq_iff_iff, hBM]
              exact ⟨fun x => x.2, fun x => ⟨HL.out, x⟩⟩
            subst hBb
            clear hBM hb0
            cases B with
            | true =>
              go_wp2
              go_ret2
              have hz := HXS.out
              have hy := HBXE.out
              exact ⟨.inl ⟨rfl, g, c, rfl, HE.out.1, HE.out.2.1, by have := HE.out.2.2; omega, HI.out⟩, HBX.out.trans (HB.out.mono HBX.out.size)⟩
            | false =>
              go_wp2
              go_ret2
              exact ⟨.inr ⟨rfl, _, _, _, rfl⟩, HBX.out.trans (HB.out.mono HBX.out.size)⟩

end Go.Proofs.Ytdjnkibnnjobpaa
