/- What is proved: the given statement StoreApartSaid: for every slice of bools the law returns true, and its argument read afterwards as before. There are no further conditions. -/
import Derived.Test.YthpajdhcgdllmaaRows
import Derived.Test.YthpajdhcgdllmaaStoQ
import Derived.Deep.RegionHeld3
import Derived.BigQuiet
import Derived.Deep.QuietTactic
import Derived.Maps.AppendAt
namespace Go.Proofs.Ythpajdhcgdllmaa.storeApart
open Go.RowKit Go.Maps Go.ChangeMaps Go.ChangeShapes Go.WideShapes Go.ChangeAt Go.Deep Go.Joins
set_option linter.unusedVariables false

set_option maxHeartbeats 8000000 in
set_option maxRecDepth 100000 in
theorem walk (a : Option Addr) (cap : Nat) (ks : List Bool) (w : World) (hks : BoolsIn w a cap ks) :
    Calls Try.prog 3 #[.slice a ks.length cap] w fun e w' => e = .returned (.bool true) ∧ Below w.heap.size w w' := by
  have HK : Hid (BoolsIn w a cap ks) := hks
  have hcap : ks.length ≤ cap ∧ cap ≤ 9223372036854775807 := ⟨hks.le, hks.max⟩
  obtain ⟨n, hn⟩ : ∃ n, ks.length = n := ⟨_, rfl⟩
  have HN : Hid (ks.length = n) := hn
  rw [hn] at hcap ⊢
  obtain ⟨i0, hi0, hz0, hz1, hz2⟩ := info_parts infoI
  clear hks hn
  go_enter Try.func3, Try.ntmps3
  go_wp2_with fail
  refine (lives_any _).mono ?_
  rintro e w0 ⟨rfl, hb0⟩
  have HB0 : Hid (Below w.heap.size w w0) := hb0
  clear hb0
  go_wp2_with fail
  refine (image_nil _).mono ?_
  rintro e w1 ⟨G, rfl, hr, _, hb1⟩
  have HB1 : Hid (Below w.heap.size w w1) := HB0.out.trans (hb1.mono HB0.out.size)
  go_wp2_with fail
  refine (load_img G headN _ hr (fun i _ => headN_wf i)).mono ?_
  rintro e w2 ⟨L, rfl, hm2, hL, hb2⟩
  have HM2 : Hid (MemIs w2 L M0) := hm2
  have HB2 : Hid (Below w.heap.size w w2) := HB1.out.trans (hb2.mono HB1.out.size)
  have HLL : Hid (∀ j ∈ L.blocks, w.heap.size ≤ j) := fun j hj => by have := hL j hj; have := HB1.out.size; omega
  clear hr hb1 hm2 hb2 hL HB0 HB1
  go_wp2_with fail
  obtain ⟨wa, ea⟩ : ∃ X, w2.alloc (.cells #[.pointer none, .pointer none] 29) = X := ⟨_, rfl⟩
  have ba : Below w2.heap.size w2 wa := by rw [← ea]; exact (Below.refl _ _).alloc (Nat.le_refl _) _
  rw [ea]
  have HEA : Hid (wa = w2.alloc (.cells #[.pointer none, .pointer none] 29)) := ea.symm
  obtain ⟨b4, hb4⟩ : ∃ b, w2.heap.size = b := ⟨_, rfl⟩
  have HB4 : Hid (w2.heap.size = b4) := hb4
  have hma := HM2.out.later ba
  have ha4 : wa.heap[b4]? = some (.cells #[.pointer none, .pointer none] 29 (0, 0)) := by rw [← hb4, ← ea]; exact heap_alloc_new _ _
  rw [hb4]
  clear ea hb4 ba
  refine (vnew_yes L M0 wa hma M0_len).mono ?_
  rintro e w3 ⟨rfl, hv3, hb3⟩
  obtain ⟨V0, hV0⟩ : ∃ A, newLay L.mb wa.heap.size = A := ⟨_, rfl⟩
  have HV0 : Hid (newLay L.mb wa.heap.size = V0) := hV0
  have HVB0 : Hid (V0.vb = wa.heap.size) := by rw [← hV0]; rfl
  rw [hV0] at hv3
  have h34 : w3.heap[b4]? = _ := (hb3.block b4 (Array.getElem?_eq_some_iff.1 ha4).1).trans ha4
  have x40 : w3.cell? ⟨b4, 0, none⟩ = some (.pointer none) := by rw [cell_of_row w3 b4 0 _ _ _ h34]; rfl
  have f40 : w3.frozen? ⟨b4, 0, none⟩ = false := frozen_of_row w3 b4 0 _ _ h34
  have HV3 : Hid (ViewIs w3 V0 Vw.new 0) := hv3
  have HB3 : Hid (Below wa.heap.size wa w3) := hb3
  have h44 := heap_setCell_same w3 b4 0 _ _ (.pointer (some ⟨V0.vb, 0, none⟩)) h34
  have HM3 : Hid (MemIs (w3.setCell ⟨b4, 0, none⟩ (.pointer (some ⟨V0.vb, 0, none⟩))) L M0) := (hma.later hb3).of_blocks fun z hz _ => Below.heap_setCell _ _ _ _ (fun e : z = b4 => by have := HM2.out.all_lt z hz; have := HB4.out; omega)
  rw [← HVB0.out]
  clear hV0 hv3 hb3 hma ha4 h34
  go_wp2_with fail
  obtain ⟨w3', e3⟩ : ∃ X, w3.setCell ⟨b4, 0, none⟩ (.pointer (some ⟨V0.vb, 0, none⟩)) = X := ⟨_, rfl⟩
  have HE3 : Hid (w3.setCell ⟨b4, 0, none⟩ (.pointer (some ⟨V0.vb, 0, none⟩)) = w3') := e3
  rw [e3] at HM3 h44 ⊢
  clear e3 x40 f40
  refine (vnew_yes L M0 w3' HM3.out M0_len).mono ?_
  rintro e w4 ⟨rfl, hv4, hb4⟩
  obtain ⟨V1, hV1⟩ : ∃ A, newLay L.mb w3'.heap.size = A := ⟨_, rfl⟩
  have HV1 : Hid (newLay L.mb w3'.heap.size = V1) := hV1
  have HVB1 : Hid (V1.vb = w3'.heap.size) := by rw [← hV1]; rfl
  rw [hV1] at hv4
  have h54 : w4.heap[b4]? = _ := (hb4.block b4 (Array.getElem?_eq_some_iff.1 h44).1).trans h44
  have x41 : w4.cell? ⟨b4, 1, none⟩ = some (.pointer none) := by rw [cell_of_row w4 b4 1 _ _ _ h54]; rfl
  have f41 : w4.frozen? ⟨b4, 1, none⟩ = false := frozen_of_row w4 b4 1 _ _ h54
  have HV4 : Hid (ViewIs w4 V1 Vw.new 0) := hv4
  have HB4' : Hid (Below w3'.heap.size w3' w4) := hb4
  rw [← HVB1.out]
  clear hV1 hv4 hb4 h44 h54
  go_wp2
  obtain ⟨w4', e4⟩ : ∃ X, w4.setCell ⟨b4, 1, none⟩ (.pointer (some ⟨V1.vb, 0, none⟩)) = X := ⟨_, rfl⟩
  have HDUO : Hid _ := duo_begin (w3' := w3') (w4' := w4') HB2.out HM2.out HLL.out HEA.out HV0.out HV3.out HB3.out (by rw [HB4.out]; exact HE3.out.symm) HV1.out HV4.out HB4'.out (by rw [HB4.out]; exact e4.symm)
  rw [HB4.out] at HDUO
  have s4 : w4'.heap.size = w4.heap.size := by rw [← e4]; simp [World.setCell]
  rw [s4] at HDUO
  try rw [e4]
  obtain ⟨b5, hb5⟩ : ∃ b, w4.heap.size = b := ⟨_, rfl⟩
  rw [hb5] at HDUO ⊢
  obtain ⟨b6, hb6⟩ : ∃ b, b5 + 1 = b := ⟨_, rfl⟩
  rw [hb6] at HDUO ⊢
  clear x41 f41 e4 s4 hb5 hb6 HM3 HV3 HB3 HE3 HV4 HB4' HEA HM2 HB2 HLL
  go_loopw [7, 8, 9, 10, 11, 12] (fun i _ _ _ _ _ wr => ∃ (k : Nat) (V : Nat → VLay) (S : Nat → Vw) (x y : Nat → Value) (B C : Nat → List Int), k ≤ n ∧ k ≤ 260 ∧ i = .int .i64 k ∧ Hid (Duo w wr V S (40 * k) L b4 b5 b6 x y B C ∧ Took S B C)) (fun i _ _ _ _ _ _ => 260 - (intOf i).toNat)
  case atStart => exact ⟨0, _, _, _, _, _, _, by omega, by omega, rfl, HDUO.out, took_new⟩
  case round =>
    obtain ⟨i, V, S, x, y, B, C, hi, hi260, rfl, HR⟩ := hrel
    have HD : Hid (Duo w wr V S (40 * i) L b4 b5 b6 x y B C) := HR.out.1
    have HT : Hid (Took S B C) := HR.out.2
    by_cases hlt : i < n
    · have hin : (i : Int) < (n : Int) := by omega
      by_cases h260 : i < 260
      · have hi26 : (i : Int) < 260 := by omega
        obtain ⟨kb, ko, rfl, hbl, hc⟩ := HK.out.at_.resolve_left (fun e => by have := HN.out; rw [e] at this; simp at this; omega)
        have ck : wr.cell? ⟨kb, ko + i, none⟩ = some (.bool (ks.getD i false)) := (HD.out.bel.cell (p := ⟨kb, ko + i, none⟩) hbl).trans (hc i (by have := HN.out; omega))
        obtain ⟨t, ht⟩ : ∃ t, ks.getD i false = t := ⟨_, rfl⟩
        rw [ht] at ck
        clear ht hc
        cases t
        · obtain ⟨xa0, xc0, hx0, xl0, xi0⟩ := row_ints (HD.out.rowB 0 (by omega))
          obtain ⟨xa1, xc1, hx1, xl1, xi1⟩ := row_ints (HD.out.rowB 1 (by omega))
          obtain ⟨ya0, yc0, hy0, yl0, yi0⟩ := row_ints (HD.out.rowC 0 (by omega))
          obtain ⟨ya1, yc1, hy1, yl1, yi1⟩ := row_ints (HD.out.rowC 1 (by omega))
          have lb0 := HT.out.lenB (k := 0) (by omega)
          have lb1 := HT.out.lenB (k := 1) (by omega)
          have lc0 := HT.out.lenC (k := 0) (by omega)
          have lc1 := HT.out.lenC (k := 1) (by omega)
          have HX0 : Hid (x 0 = .slice xa0 (B 0).length xc0) := hx0
          have HX1 : Hid (x 1 = .slice xa1 (B 1).length xc1) := hx1
          have HY0 : Hid (y 0 = .slice ya0 (C 0).length yc0) := hy0
          have HY1 : Hid (y 1 = .slice ya1 (C 1).length yc1) := hy1
          obtain ⟨pB0, hpB0⟩ : ∃ n, (B 0).length = n := ⟨_, rfl⟩
          obtain ⟨pB1, hpB1⟩ : ∃ n, (B 1).length = n := ⟨_, rfl⟩
          obtain ⟨pC0, hpC0⟩ : ∃ n, (C 0).length = n := ⟨_, rfl⟩
          obtain ⟨pC1, hpC1⟩ : ∃ n, (C 1).length = n := ⟨_, rfl⟩
          have HPB0 : Hid ((B 0).length = pB0) := hpB0
          have HPB1 : Hid ((B 1).length = pB1) := hpB1
          have HPC0 : Hid ((C 0).length = pC0) := hpC0
          have HPC1 : Hid ((C 1).length = pC1) := hpC1
          rw [hpB0] at lb0
          rw [hpB1] at lb1
          rw [hpC0] at lc0
          rw [hpC1] at lc1
          have HAV : Hid (∀ w', Duo w w' V S (40 * i) L b4 b5 b6 x y B C → Calls Try.prog 11 #[.pointer (some ⟨(V 0).vb, 0, none⟩), .slice xa1 pB1 xc1, .slice ya1 pC1 yc1] w' fun e w2 => e = .returned (.tuple #[]) ∧ ∃ V' S', Duo w w2 V' S' (40 * i) L b4 b5 b6 x y B C ∧ Took S' B C ∧ (∀ i, (V' i).vb = (V i).vb) ∧
              (∀ z, 0 ≤ z → z < 96 → freshB (S' 0) M0 z = (!decide (z ∈ B 0) && !decide (z ∈ B 1))) ∧ (∀ z, 2 ≤ z → z < 24 → freeN (S' 0) M0 z = (!decide (z ∈ C 0) && !decide (z ∈ C 1)))) := fun w' D => by
            have := D.avoid HT.out (k := 0) (j := 1) (by omega) (by omega) hx1 hy1
            rw [hpB1, hpC1] at this
            exact this
          obtain ⟨d40, d41, d50, d51, d60, d61⟩ := HD.out.cells
          rw [hx1, hpB1] at d51
          rw [hy1, hpC1] at d61
          obtain ⟨vb, hvb⟩ : ∃ n, (V 0).vb = n := ⟨_, rfl⟩
          have HVB : Hid ((V 0).vb = vb) := hvb
          rw [hvb] at d40 HAV
          clear hx0 hx1 hy0 hy1 hpB0 hpB1 hpC0 hpC1 xi0 xi1 yi0 yi1 xl0 xl1 yl0 yl1 d41 d50 d60 hvb HR
          have hwr : IntKind.i64.wrap 1 = 1 := by rw [IntKind.wrap_i64]; rfl
          go_wp2_with fail
          go_region_held3 (fun v' => v'.cell? ⟨b4, 0, none⟩ = some (.pointer (some ⟨vb, 0, none⟩)) ∧ v'.cell? ⟨b5, 1, none⟩ = some (.slice xa1 pB1 xc1) ∧ v'.cell? ⟨b6, 1, none⟩ = some (.slice ya1 pC1 yc1)) (first | go_keep | exact ⟨d40, d51, d61⟩)
            (first
              | (go_at_call 11; refine Calls.mono (HAV.out _ HD.out.drew) ?_; rintro e w5 ⟨rfl, V5, S5, D5, T5, hvb5, hfr, hfn⟩
                 have HD5 : Hid (Duo w w5 V5 S5 (40 * i) L b4 b5 b6 x y B C) := D5
                 have HT5 : Hid (Took S5 B C) := T5
                 have HFR : Hid _ := hfr
                 have HFN : Hid _ := hfn
                 have hv5 : (V5 0).vb = vb := (hvb5 0).trans HVB.out
                 have HV5 : Hid ((V5 0).vb = vb) := hv5
                 obtain ⟨d40, d41, d50, d51, d60, d61⟩ := D5.cells
                 rw [hv5] at d40
                 rw [HX1.out, HPB1.out] at d51
                 rw [HY1.out, HPC1.out] at d61
                 clear D5 T5 hvb5 hfr hfn hv5 d41 d50 d60))
          all_goals
            have HTK : Hid _ := HD5.out.take HT5.out (k := 0) (j := 1) (by omega) (by omega) (by omega) (by omega) HFR.out
            have HND : Hid _ := HD5.out.node HT5.out (k := 0) (j := 1) (by omega) (by omega) (by omega) (by omega) HFN.out
            rw [HV5.out] at HTK HND
            obtain ⟨r, hr⟩ : ∃ r, (i : Int).tmod 3 = r := ⟨_, rfl⟩
            have hr3 : r = 2 ∨ (r == 2) = false := by
              by_cases e : r = 2
              · exact .inl e
              · exact .inr (by simpa using e)
            clear HAV HFR HFN hwr d51 d61
            rcases hr3 with rfl | hr3
            · go_wp2_with fail
              refine Calls.mono (Hid.out HND) ?_
              rintro e w6 (⟨q, rfl, S6, D6, T6⟩ | ⟨rfl, hlen, D6⟩)
              · have HD6 : Hid (Duo w w6 V5 S6 (40 * i + 17) L b4 b5 b6 x y B C) := D6
                have HT6 : Hid _ := T6
                clear D6 T6 HND HTK
                have hown : w6.ownsRow w.heap.size 3 1 (.slice ya0 pC0 yc0) pC0 ((C 0).map (Value.int .i64)) := by
                  have := HD6.out.rowC 0 (by omega)
                  rw [HY0.out, HPC0.out] at this
                  exact this
                have HOWN : Hid (w6.ownsRow w.heap.size 3 1 (.slice ya0 pC0 yc0) pC0 ((C 0).map (Value.int .i64))) := hown
                have HSZ6 : Hid (w.heap.size ≤ w6.heap.size) := HD6.out.bel.size
                obtain ⟨d40, d41, d50, d51, d60, d61⟩ := HD6.out.cells
                rw [HX0.out, HPB0.out] at d50
                rw [HX1.out, HPB1.out] at d51
                rw [HY0.out, HPC0.out] at d60
                rw [HY1.out, HPC1.out] at d61
                clear hown
                go_wp2_with (first
                  | (at_builtin; refine wpList_append_own_at _ rfl _ _ 31 rfl w.heap.size 3 i0 (.int .i64 0) 1 8 Try.underlying31 hi0 hz0 hz1 hz2 rfl (by decide) (.slice ya0 pC0 yc0) pC0 _ rfl (HOWN.out.alloc _) ⟨w6.heap.size, 0, none⟩ 1 1 [.int .i64 q] rfl rfl ?c1 ?c2 ?c3 ?c4 ?c5 ?_)
                  | go_in)
                case c1 =>
                  intro j u hj
                  match j, hj with
                  | 0, hj => simp at hj; subst hj; simp [Addr.add]
                case c2 => intro u hu; simp at hu; subst hu; rfl
                case c3 => unfold maxLen; omega
                case c4 => omega
                case c5 => have := HSZ6.out; simp; omega
                intro v' w7 hown' hgrow _ hob
                obtain ⟨va, vc, rfl, _⟩ := ownsRow_form0 hown'
                have hg7 : (w6.alloc (.cells #[.int .i64 q] 3)).grownBy w7 (y 0).ownBlock := by rw [HY0.out, HPC0.out]; exact hgrow
                have h7 := HD6.out.arr6' (k := 0) (by omega) hg7
                have e7 : w7.cell? ⟨b6, 0, none⟩ = some (y 0) := by rw [cell_of_row w7 b6 0 _ _ _ h7]; rfl
                have fz7 : w7.frozen? ⟨b6, 0, none⟩ = false := frozen_of_row w7 b6 0 _ _ h7
                have HD7 := HD6.out.pushY (k := 0) (v := .slice va (pC0 + 1) vc) (q := q) (by omega) (by rw [HPC0.out]; exact hown') hg7 (by rw [HY0.out, HPC0.out]; simpa using hob)
                have HD7' : Hid _ := HD7
                clear hown' hgrow hob hg7 h7 HD7 HOWN d40 d41 d50 d51 d60 d61
                go_wp2
                go_roundw
                case rel => exact ⟨i + 1, V5, S6, x, setF y 0 (.slice va (pC0 + 1) vc), B, setF C 0 (C 0 ++ [(q : Int)]), by omega, by omega, by go_num, HD7'.out.mono (by omega), HT6.out⟩
                case measure => simp [intOf]; omega
              · rw [HPC0.out, HPC1.out] at hlen
                have HD6 : Hid (Duo w w6 V5 S5 (40 * i) L b4 b5 b6 x y B C) := D6
                clear D6 HND HTK
                obtain ⟨d40, d41, d50, d51, d60, d61⟩ := HD6.out.cells
                rw [HX0.out, HPB0.out] at d50
                rw [HX1.out, HPB1.out] at d51
                rw [HY0.out, HPC0.out] at d60
                rw [HY1.out, HPC1.out] at d61
                have hsum : (pC0 : Int) + (pC1 : Int) = 22 := by omega
                go_wp2
                go_roundw
                case rel => exact ⟨i + 1, V5, S5, x, y, B, C, by omega, by omega, by go_num, HD6.out.mono (by omega), HT5.out⟩
                case measure => simp [intOf]; omega
            · go_wp2_with fail
              refine Calls.mono (Hid.out HTK) ?_
              rintro e w6 (⟨q, rfl, S6, D6, T6⟩ | ⟨rfl, hlen, D6⟩)
              · have HD6 : Hid (Duo w w6 V5 S6 (40 * i + 17) L b4 b5 b6 x y B C) := D6
                have HT6 : Hid _ := T6
                clear D6 T6 HND HTK
                have hown : w6.ownsRow w.heap.size 3 1 (.slice xa0 pB0 xc0) pB0 ((B 0).map (Value.int .i64)) := by
                  have := HD6.out.rowB 0 (by omega)
                  rw [HX0.out, HPB0.out] at this
                  exact this
                have HOWN : Hid (w6.ownsRow w.heap.size 3 1 (.slice xa0 pB0 xc0) pB0 ((B 0).map (Value.int .i64))) := hown
                have HSZ6 : Hid (w.heap.size ≤ w6.heap.size) := HD6.out.bel.size
                obtain ⟨d40, d41, d50, d51, d60, d61⟩ := HD6.out.cells
                rw [HX0.out, HPB0.out] at d50
                rw [HX1.out, HPB1.out] at d51
                rw [HY0.out, HPC0.out] at d60
                rw [HY1.out, HPC1.out] at d61
                clear hown
                go_wp2_with (first
                  | (at_builtin; refine wpList_append_own_at _ rfl _ _ 31 rfl w.heap.size 3 i0 (.int .i64 0) 1 8 Try.underlying31 hi0 hz0 hz1 hz2 rfl (by decide) (.slice xa0 pB0 xc0) pB0 _ rfl (HOWN.out.alloc _) ⟨w6.heap.size, 0, none⟩ 1 1 [.int .i64 q] rfl rfl ?c1 ?c2 ?c3 ?c4 ?c5 ?_)
                  | go_in)
                case c1 =>
                  intro j u hj
                  match j, hj with
                  | 0, hj => simp at hj; subst hj; simp [Addr.add]
                case c2 => intro u hu; simp at hu; subst hu; rfl
                case c3 => unfold maxLen; omega
                case c4 => omega
                case c5 => have := HSZ6.out; simp; omega
                intro v' w7 hown' hgrow _ hob
                obtain ⟨va, vc, rfl, _⟩ := ownsRow_form0 hown'
                have hg7 : (w6.alloc (.cells #[.int .i64 q] 3)).grownBy w7 (x 0).ownBlock := by rw [HX0.out, HPB0.out]; exact hgrow
                have h7 := HD6.out.arr5' (k := 0) (by omega) hg7
                have e7 : w7.cell? ⟨b5, 0, none⟩ = some (x 0) := by rw [cell_of_row w7 b5 0 _ _ _ h7]; rfl
                have fz7 : w7.frozen? ⟨b5, 0, none⟩ = false := frozen_of_row w7 b5 0 _ _ h7
                have HD7 := HD6.out.pushX (k := 0) (v := .slice va (pB0 + 1) vc) (q := q) (by omega) (by rw [HPB0.out]; exact hown') hg7 (by rw [HX0.out, HPB0.out]; simpa using hob)
                have HD7' : Hid _ := HD7
                clear hown' hgrow hob hg7 h7 HD7 HOWN d40 d41 d50 d51 d60 d61
                go_wp2
                go_roundw
                case rel => exact ⟨i + 1, V5, S6, setF x 0 (.slice va (pB0 + 1) vc), y, setF B 0 (B 0 ++ [(q : Int)]), C, by omega, by omega, by go_num, HD7'.out.mono (by omega), HT6.out⟩
                case measure => simp [intOf]; omega
              · rw [HPB0.out, HPB1.out] at hlen
                have HD6 : Hid (Duo w w6 V5 S5 (40 * i) L b4 b5 b6 x y B C) := D6
                clear D6 HND HTK
                obtain ⟨d40, d41, d50, d51, d60, d61⟩ := HD6.out.cells
                rw [HX0.out, HPB0.out] at d50
                rw [HX1.out, HPB1.out] at d51
                rw [HY0.out, HPC0.out] at d60
                rw [HY1.out, HPC1.out] at d61
                have hsum : (pB0 : Int) + (pB1 : Int) = 96 := by omega
                go_wp2
                go_roundw
                case rel => exact ⟨i + 1, V5, S5, x, y, B, C, by omega, by omega, by go_num, HD6.out.mono (by omega), HT5.out⟩
                case measure => simp [intOf]; omega
        · obtain ⟨xa0, xc0, hx0, xl0, xi0⟩ := row_ints (HD.out.rowB 0 (by omega))
          obtain ⟨xa1, xc1, hx1, xl1, xi1⟩ := row_ints (HD.out.rowB 1 (by omega))
          obtain ⟨ya0, yc0, hy0, yl0, yi0⟩ := row_ints (HD.out.rowC 0 (by omega))
          obtain ⟨ya1, yc1, hy1, yl1, yi1⟩ := row_ints (HD.out.rowC 1 (by omega))
          have lb0 := HT.out.lenB (k := 0) (by omega)
          have lb1 := HT.out.lenB (k := 1) (by omega)
          have lc0 := HT.out.lenC (k := 0) (by omega)
          have lc1 := HT.out.lenC (k := 1) (by omega)
          have HX0 : Hid (x 0 = .slice xa0 (B 0).length xc0) := hx0
          have HX1 : Hid (x 1 = .slice xa1 (B 1).length xc1) := hx1
          have HY0 : Hid (y 0 = .slice ya0 (C 0).length yc0) := hy0
          have HY1 : Hid (y 1 = .slice ya1 (C 1).length yc1) := hy1
          obtain ⟨pB0, hpB0⟩ : ∃ n, (B 0).length = n := ⟨_, rfl⟩
          obtain ⟨pB1, hpB1⟩ : ∃ n, (B 1).length = n := ⟨_, rfl⟩
          obtain ⟨pC0, hpC0⟩ : ∃ n, (C 0).length = n := ⟨_, rfl⟩
          obtain ⟨pC1, hpC1⟩ : ∃ n, (C 1).length = n := ⟨_, rfl⟩
          have HPB0 : Hid ((B 0).length = pB0) := hpB0
          have HPB1 : Hid ((B 1).length = pB1) := hpB1
          have HPC0 : Hid ((C 0).length = pC0) := hpC0
          have HPC1 : Hid ((C 1).length = pC1) := hpC1
          rw [hpB0] at lb0
          rw [hpB1] at lb1
          rw [hpC0] at lc0
          rw [hpC1] at lc1
          have HAV : Hid (∀ w', Duo w w' V S (40 * i) L b4 b5 b6 x y B C → Calls Try.prog 11 #[.pointer (some ⟨(V 1).vb, 0, none⟩), .slice xa0 pB0 xc0, .slice ya0 pC0 yc0] w' fun e w2 => e = .returned (.tuple #[]) ∧ ∃ V' S', Duo w w2 V' S' (40 * i) L b4 b5 b6 x y B C ∧ Took S' B C ∧ (∀ i, (V' i).vb = (V i).vb) ∧
              (∀ z, 0 ≤ z → z < 96 → freshB (S' 1) M0 z = (!decide (z ∈ B 1) && !decide (z ∈ B 0))) ∧ (∀ z, 2 ≤ z → z < 24 → freeN (S' 1) M0 z = (!decide (z ∈ C 1) && !decide (z ∈ C 0)))) := fun w' D => by
            have := D.avoid HT.out (k := 1) (j := 0) (by omega) (by omega) hx0 hy0
            rw [hpB0, hpC0] at this
            exact this
          obtain ⟨d40, d41, d50, d51, d60, d61⟩ := HD.out.cells
          rw [hx0, hpB0] at d50
          rw [hy0, hpC0] at d60
          obtain ⟨vb, hvb⟩ : ∃ n, (V 1).vb = n := ⟨_, rfl⟩
          have HVB : Hid ((V 1).vb = vb) := hvb
          rw [hvb] at d41 HAV
          clear hx0 hx1 hy0 hy1 hpB0 hpB1 hpC0 hpC1 xi0 xi1 yi0 yi1 xl0 xl1 yl0 yl1 d40 d51 d61 hvb HR
          have hwr : IntKind.i64.wrap 0 = 0 := by rw [IntKind.wrap_i64]; rfl
          go_wp2_with fail
          go_region_held3 (fun v' => v'.cell? ⟨b4, 1, none⟩ = some (.pointer (some ⟨vb, 0, none⟩)) ∧ v'.cell? ⟨b5, 0, none⟩ = some (.slice xa0 pB0 xc0) ∧ v'.cell? ⟨b6, 0, none⟩ = some (.slice ya0 pC0 yc0)) (first | go_keep | exact ⟨d41, d50, d60⟩)
            (first
              | (go_at_call 11; refine Calls.mono (HAV.out _ HD.out.drew) ?_; rintro e w5 ⟨rfl, V5, S5, D5, T5, hvb5, hfr, hfn⟩
                 have HD5 : Hid (Duo w w5 V5 S5 (40 * i) L b4 b5 b6 x y B C) := D5
                 have HT5 : Hid (Took S5 B C) := T5
                 have HFR : Hid _ := hfr
                 have HFN : Hid _ := hfn
                 have hv5 : (V5 1).vb = vb := (hvb5 1).trans HVB.out
                 have HV5 : Hid ((V5 1).vb = vb) := hv5
                 obtain ⟨d40, d41, d50, d51, d60, d61⟩ := D5.cells
                 rw [hv5] at d41
                 rw [HX0.out, HPB0.out] at d50
                 rw [HY0.out, HPC0.out] at d60
                 clear D5 T5 hvb5 hfr hfn hv5 d40 d51 d61))
          all_goals
            have HTK : Hid _ := HD5.out.take HT5.out (k := 1) (j := 0) (by omega) (by omega) (by omega) (by omega) HFR.out
            have HND : Hid _ := HD5.out.node HT5.out (k := 1) (j := 0) (by omega) (by omega) (by omega) (by omega) HFN.out
            rw [HV5.out] at HTK HND
            obtain ⟨r, hr⟩ : ∃ r, (i : Int).tmod 3 = r := ⟨_, rfl⟩
            have hr3 : r = 2 ∨ (r == 2) = false := by
              by_cases e : r = 2
              · exact .inl e
              · exact .inr (by simpa using e)
            clear HAV HFR HFN hwr d50 d60
            rcases hr3 with rfl | hr3
            · go_wp2_with fail
              refine Calls.mono (Hid.out HND) ?_
              rintro e w6 (⟨q, rfl, S6, D6, T6⟩ | ⟨rfl, hlen, D6⟩)
              · have HD6 : Hid (Duo w w6 V5 S6 (40 * i + 17) L b4 b5 b6 x y B C) := D6
                have HT6 : Hid _ := T6
                clear D6 T6 HND HTK
                have hown : w6.ownsRow w.heap.size 3 1 (.slice ya1 pC1 yc1) pC1 ((C 1).map (Value.int .i64)) := by
                  have := HD6.out.rowC 1 (by omega)
                  rw [HY1.out, HPC1.out] at this
                  exact this
                have HOWN : Hid (w6.ownsRow w.heap.size 3 1 (.slice ya1 pC1 yc1) pC1 ((C 1).map (Value.int .i64))) := hown
                have HSZ6 : Hid (w.heap.size ≤ w6.heap.size) := HD6.out.bel.size
                obtain ⟨d40, d41, d50, d51, d60, d61⟩ := HD6.out.cells
                rw [HX0.out, HPB0.out] at d50
                rw [HX1.out, HPB1.out] at d51
                rw [HY0.out, HPC0.out] at d60
                rw [HY1.out, HPC1.out] at d61
                clear hown
                go_wp2_with (first
                  | (at_builtin; refine wpList_append_own_at _ rfl _ _ 31 rfl w.heap.size 3 i0 (.int .i64 0) 1 8 Try.underlying31 hi0 hz0 hz1 hz2 rfl (by decide) (.slice ya1 pC1 yc1) pC1 _ rfl (HOWN.out.alloc _) ⟨w6.heap.size, 0, none⟩ 1 1 [.int .i64 q] rfl rfl ?c1 ?c2 ?c3 ?c4 ?c5 ?_)
                  | go_in)
                case c1 =>
                  intro j u hj
                  match j, hj with
                  | 0, hj => simp at hj; subst hj; simp [Addr.add]
                case c2 => intro u hu; simp at hu; subst hu; rfl
                case c3 => unfold maxLen; omega
                case c4 => omega
                case c5 => have := HSZ6.out; simp; omega
                intro v' w7 hown' hgrow _ hob
                obtain ⟨va, vc, rfl, _⟩ := ownsRow_form0 hown'
                have hg7 : (w6.alloc (.cells #[.int .i64 q] 3)).grownBy w7 (y 1).ownBlock := by rw [HY1.out, HPC1.out]; exact hgrow
                have h7 := HD6.out.arr6' (k := 1) (by omega) hg7
                have e7 : w7.cell? ⟨b6, 1, none⟩ = some (y 1) := by rw [cell_of_row w7 b6 1 _ _ _ h7]; rfl
                have fz7 : w7.frozen? ⟨b6, 1, none⟩ = false := frozen_of_row w7 b6 1 _ _ h7
                have HD7 := HD6.out.pushY (k := 1) (v := .slice va (pC1 + 1) vc) (q := q) (by omega) (by rw [HPC1.out]; exact hown') hg7 (by rw [HY1.out, HPC1.out]; simpa using hob)
                have HD7' : Hid _ := HD7
                clear hown' hgrow hob hg7 h7 HD7 HOWN d40 d41 d50 d51 d60 d61
                go_wp2
                go_roundw
                case rel => exact ⟨i + 1, V5, S6, x, setF y 1 (.slice va (pC1 + 1) vc), B, setF C 1 (C 1 ++ [(q : Int)]), by omega, by omega, by go_num, HD7'.out.mono (by omega), HT6.out⟩
                case measure => simp [intOf]; omega
              · rw [HPC0.out, HPC1.out] at hlen
                have HD6 : Hid (Duo w w6 V5 S5 (40 * i) L b4 b5 b6 x y B C) := D6
                clear D6 HND HTK
                obtain ⟨d40, d41, d50, d51, d60, d61⟩ := HD6.out.cells
                rw [HX0.out, HPB0.out] at d50
                rw [HX1.out, HPB1.out] at d51
                rw [HY0.out, HPC0.out] at d60
                rw [HY1.out, HPC1.out] at d61
                have hsum : (pC0 : Int) + (pC1 : Int) = 22 := by omega
                go_wp2
                go_roundw
                case rel => exact ⟨i + 1, V5, S5, x, y, B, C, by omega, by omega, by go_num, HD6.out.mono (by omega), HT5.out⟩
                case measure => simp [intOf]; omega
            · go_wp2_with fail
              refine Calls.mono (Hid.out HTK) ?_
              rintro e w6 (⟨q, rfl, S6, D6, T6⟩ | ⟨rfl, hlen, D6⟩)
              · have HD6 : Hid (Duo w w6 V5 S6 (40 * i + 17) L b4 b5 b6 x y B C) := D6
                have HT6 : Hid _ := T6
                clear D6 T6 HND HTK
                have hown : w6.ownsRow w.heap.size 3 1 (.slice xa1 pB1 xc1) pB1 ((B 1).map (Value.int .i64)) := by
                  have := HD6.out.rowB 1 (by omega)
                  rw [HX1.out, HPB1.out] at this
                  exact this
                have HOWN : Hid (w6.ownsRow w.heap.size 3 1 (.slice xa1 pB1 xc1) pB1 ((B 1).map (Value.int .i64))) := hown
                have HSZ6 : Hid (w.heap.size ≤ w6.heap.size) := HD6.out.bel.size
                obtain ⟨d40, d41, d50, d51, d60, d61⟩ := HD6.out.cells
                rw [HX0.out, HPB0.out] at d50
                rw [HX1.out, HPB1.out] at d51
                rw [HY0.out, HPC0.out] at d60
                rw [HY1.out, HPC1.out] at d61
                clear hown
                go_wp2_with (first
                  | (at_builtin; refine wpList_append_own_at _ rfl _ _ 31 rfl w.heap.size 3 i0 (.int .i64 0) 1 8 Try.underlying31 hi0 hz0 hz1 hz2 rfl (by decide) (.slice xa1 pB1 xc1) pB1 _ rfl (HOWN.out.alloc _) ⟨w6.heap.size, 0, none⟩ 1 1 [.int .i64 q] rfl rfl ?c1 ?c2 ?c3 ?c4 ?c5 ?_)
                  | go_in)
                case c1 =>
                  intro j u hj
                  match j, hj with
                  | 0, hj => simp at hj; subst hj; simp [Addr.add]
                case c2 => intro u hu; simp at hu; subst hu; rfl
                case c3 => unfold maxLen; omega
                case c4 => omega
                case c5 => have := HSZ6.out; simp; omega
                intro v' w7 hown' hgrow _ hob
                obtain ⟨va, vc, rfl, _⟩ := ownsRow_form0 hown'
                have hg7 : (w6.alloc (.cells #[.int .i64 q] 3)).grownBy w7 (x 1).ownBlock := by rw [HX1.out, HPB1.out]; exact hgrow
                have h7 := HD6.out.arr5' (k := 1) (by omega) hg7
                have e7 : w7.cell? ⟨b5, 1, none⟩ = some (x 1) := by rw [cell_of_row w7 b5 1 _ _ _ h7]; rfl
                have fz7 : w7.frozen? ⟨b5, 1, none⟩ = false := frozen_of_row w7 b5 1 _ _ h7
                have HD7 := HD6.out.pushX (k := 1) (v := .slice va (pB1 + 1) vc) (q := q) (by omega) (by rw [HPB1.out]; exact hown') hg7 (by rw [HX1.out, HPB1.out]; simpa using hob)
                have HD7' : Hid _ := HD7
                clear hown' hgrow hob hg7 h7 HD7 HOWN d40 d41 d50 d51 d60 d61
                go_wp2
                go_roundw
                case rel => exact ⟨i + 1, V5, S6, setF x 1 (.slice va (pB1 + 1) vc), y, setF B 1 (B 1 ++ [(q : Int)]), C, by omega, by omega, by go_num, HD7'.out.mono (by omega), HT6.out⟩
                case measure => simp [intOf]; omega
              · rw [HPB0.out, HPB1.out] at hlen
                have HD6 : Hid (Duo w w6 V5 S5 (40 * i) L b4 b5 b6 x y B C) := D6
                clear D6 HND HTK
                obtain ⟨d40, d41, d50, d51, d60, d61⟩ := HD6.out.cells
                rw [HX0.out, HPB0.out] at d50
                rw [HX1.out, HPB1.out] at d51
                rw [HY0.out, HPC0.out] at d60
                rw [HY1.out, HPC1.out] at d61
                have hsum : (pB0 : Int) + (pB1 : Int) = 96 := by omega
                go_wp2
                go_roundw
                case rel => exact ⟨i + 1, V5, S5, x, y, B, C, by omega, by omega, by go_num, HD6.out.mono (by omega), HT5.out⟩
                case measure => simp [intOf]; omega
      · have hge2 : ¬ ((i : Int) < 260) := by omega
        obtain ⟨xa0, xc0, hx0, xl0, xi0⟩ := row_ints (HD.out.rowB 0 (by omega))
        obtain ⟨xa1, xc1, hx1, xl1, xi1⟩ := row_ints (HD.out.rowB 1 (by omega))
        obtain ⟨ya0, yc0, hy0, yl0, yi0⟩ := row_ints (HD.out.rowC 0 (by omega))
        obtain ⟨ya1, yc1, hy1, yl1, yi1⟩ := row_ints (HD.out.rowC 1 (by omega))
        have lb0 := HT.out.lenB (k := 0) (by omega)
        have lb1 := HT.out.lenB (k := 1) (by omega)
        have lc0 := HT.out.lenC (k := 0) (by omega)
        have lc1 := HT.out.lenC (k := 1) (by omega)
        have HX0 : Hid (x 0 = .slice xa0 (B 0).length xc0) := hx0
        have HX1 : Hid (x 1 = .slice xa1 (B 1).length xc1) := hx1
        have HY0 : Hid (y 0 = .slice ya0 (C 0).length yc0) := hy0
        have HY1 : Hid (y 1 = .slice ya1 (C 1).length yc1) := hy1
        obtain ⟨pB0, hpB0⟩ : ∃ n, (B 0).length = n := ⟨_, rfl⟩
        obtain ⟨pB1, hpB1⟩ : ∃ n, (B 1).length = n := ⟨_, rfl⟩
        obtain ⟨pC0, hpC0⟩ : ∃ n, (C 0).length = n := ⟨_, rfl⟩
        obtain ⟨pC1, hpC1⟩ : ∃ n, (C 1).length = n := ⟨_, rfl⟩
        have HPB0 : Hid ((B 0).length = pB0) := hpB0
        have HPB1 : Hid ((B 1).length = pB1) := hpB1
        have HPC0 : Hid ((C 0).length = pC0) := hpC0
        have HPC1 : Hid ((C 1).length = pC1) := hpC1
        rw [hpB0] at lb0
        rw [hpB1] at lb1
        rw [hpC0] at lc0
        rw [hpC1] at lc1
        obtain ⟨N, hN⟩ : ∃ N, 40 * i = N := ⟨_, rfl⟩
        have HE : Hid (Duo w wr V S N L b4 b5 b6 x y B C) := by rw [← hN]; exact HD.out
        clear HD hN HR hx0 hx1 hy0 hy1 hpB0 hpB1 hpC0 hpC1 xi0 xi1 yi0 yi1 xl0 xl1 yl0 yl1
        go_wp2
        refine wp_loop_rounds 3 ?_
        rw [rounds_succ]
        go_wp2
        go_loopw [14] (fun j wr => ∃ q : Nat, q ≤ pB0 ∧ j = .int .i64 q ∧ Hid (Duo w wr V S N L b4 b5 b6 x y B C)) (fun j _ => pB0 - (intOf j).toNat)
        case atStart => exact ⟨0, Nat.zero_le _, rfl, HE.out⟩
        case round =>
          obtain ⟨q, hq, rfl, HE⟩ := hrel
          obtain ⟨d40, d41, d50, d51, d60, d61⟩ := HE.out.cells
          rw [HX0.out, HPB0.out] at d50
          rw [HX1.out, HPB1.out] at d51
          rw [HY0.out, HPC0.out] at d60
          rw [HY1.out, HPC1.out] at d61
          clear d40 d41 d60 d61
          by_cases hlt : q < pB0
          · have hqn : (q : Int) < (pB0 : Int) := by omega
            have hlen : q < (B 0).length := by rw [HPB0.out]; exact hlt
            obtain ⟨_, _, hxe, hxl, hxi⟩ := row_ints (HE.out.rowB 0 (by omega))
            rw [HX0.out] at hxe
            cases hxe
            obtain ⟨_, _, hze, _, hzi⟩ := row_ints (HE.out.rowB 1 (by omega))
            rw [HX1.out] at hze
            cases hze
            obtain ⟨b, o, rfl, hbl, hcc⟩ := hxi.resolve_left (by omega)
            have ce := hcc q hlen
            obtain ⟨Z, hZ⟩ : ∃ Z, (B 0).getD q 0 = Z := ⟨_, rfl⟩
            have hZm : Z ∈ B 0 := by rw [← hZ]; simp [hlen]
            have hn1 : namedI (fun i => (B 1).getD i 0) (B 1).length Z = false := by
              rw [named_mem, decide_eq_false_iff_not]
              exact HT.out.bAp 0 1 (by omega) (by omega) (by omega) Z hZm
            have hn2 : namedI (fun i => (B 0).getD i 0) q Z = false := by
              unfold namedI
              rw [decide_eq_false_iff_not]
              rintro ⟨i, hi, e⟩
              have hnd := HT.out.bNd 0 (by omega)
              have hil : i < (B 0).length := by omega
              refine List.pairwise_iff_getElem.1 hnd i q hil hlen hi ?_
              have e1 : (B 0).getD i 0 = (B 0)[i] := by simp [hil]
              have e2 : (B 0).getD q 0 = (B 0)[q] := by simp [hlen]
              rw [← e1, ← e2, hZ]; exact e
            have F1 : Hid (∀ m, Calls Try.prog 14 #[.slice xa1 pB1 xc1, .int .i64 Z] (wr.drewN m) fun e w' => e = .returned (.bool false) ∧ w' = wr.drewN m) := fun m => by
              have := has_out xa1 (B 1).length xc1 _ Z (wr.drewN m) hzi (by have := HT.out.lenB (k := 1) (by omega); omega)
              rw [hn1, HPB1.out] at this
              exact this
            have F2 : Hid (∀ m, Calls Try.prog 14 #[.slice (some ⟨b, o, none⟩) q xc0, .int .i64 Z] (wr.drewN m) fun e w' => e = .returned (.bool false) ∧ w' = wr.drewN m) := fun m => by
              have := has_out (some ⟨b, o, none⟩) q xc0 (fun i => (B 0).getD i 0) Z (wr.drewN m) (.inr ⟨b, o, rfl, hbl, fun i hi => hcc i (by omega)⟩) (by have := HT.out.lenB (k := 0) (by omega); omega)
              rw [hn2] at this
              exact this
            have hqc : q ≤ xc0 := by omega
            have hqc2 : (q : Int) ≤ (xc0 : Int) := by omega
            simp only [hZ] at ce
            clear hZ hZm hn1 hn2 hcc hxl hzi hxi
            go_wp2_with fail
            go_quiet (first
              | (go_at_call_of 14 (Value.slice xa1 pB1 xc1); refine (Hid.out F1 _).mono fun _ _ h => ⟨h.1, _, h.2⟩)
              | (go_at_call_of 14 (Value.slice (some ⟨b, o, none⟩) q xc0); refine (Hid.out F2 _).mono fun _ _ h => ⟨h.1, _, h.2⟩))
            go_wp2
            go_roundw
            case rel => exact ⟨q + 1, by omega, by go_num, HE.out.drewN _⟩
            case measure => simp [intOf]; omega
          · have hge : ¬ ((q : Int) < (pB0 : Int)) := by omega
            clear hlt hq
            go_wp2
            go_loopw [15] (fun j wr => ∃ q : Nat, q ≤ pC0 ∧ j = .int .i64 q ∧ Hid (Duo w wr V S N L b4 b5 b6 x y B C)) (fun j _ => pC0 - (intOf j).toNat)
            case atStart => exact ⟨0, Nat.zero_le _, rfl, HE.out⟩
            case round =>
              obtain ⟨q, hq, rfl, HE⟩ := hrel
              obtain ⟨d40, d41, d50, d51, d60, d61⟩ := HE.out.cells
              rw [HX0.out, HPB0.out] at d50
              rw [HX1.out, HPB1.out] at d51
              rw [HY0.out, HPC0.out] at d60
              rw [HY1.out, HPC1.out] at d61
              clear d40 d41 d50 d51
              by_cases hlt : q < pC0
              · have hqn : (q : Int) < (pC0 : Int) := by omega
                have hlen : q < (C 0).length := by rw [HPC0.out]; exact hlt
                obtain ⟨_, _, hxe, hxl, hxi⟩ := row_ints (HE.out.rowC 0 (by omega))
                rw [HY0.out] at hxe
                cases hxe
                obtain ⟨_, _, hze, _, hzi⟩ := row_ints (HE.out.rowC 1 (by omega))
                rw [HY1.out] at hze
                cases hze
                obtain ⟨b, o, rfl, hbl, hcc⟩ := hxi.resolve_left (by omega)
                have ce := hcc q hlen
                obtain ⟨Z, hZ⟩ : ∃ Z, (C 0).getD q 0 = Z := ⟨_, rfl⟩
                have hZm : Z ∈ C 0 := by rw [← hZ]; simp [hlen]
                have hn1 : namedI (fun i => (C 1).getD i 0) (C 1).length Z = false := by
                  rw [named_mem, decide_eq_false_iff_not]
                  exact HT.out.cAp 0 1 (by omega) (by omega) (by omega) Z hZm
                have hn2 : namedI (fun i => (C 0).getD i 0) q Z = false := by
                  unfold namedI
                  rw [decide_eq_false_iff_not]
                  rintro ⟨i, hi, e⟩
                  have hnd := HT.out.cNd 0 (by omega)
                  have hil : i < (C 0).length := by omega
                  refine List.pairwise_iff_getElem.1 hnd i q hil hlen hi ?_
                  have e1 : (C 0).getD i 0 = (C 0)[i] := by simp [hil]
                  have e2 : (C 0).getD q 0 = (C 0)[q] := by simp [hlen]
                  rw [← e1, ← e2, hZ]; exact e
                have F1 : Hid (∀ m, Calls Try.prog 14 #[.slice ya1 pC1 yc1, .int .i64 Z] (wr.drewN m) fun e w' => e = .returned (.bool false) ∧ w' = wr.drewN m) := fun m => by
                  have := has_out ya1 (C 1).length yc1 _ Z (wr.drewN m) hzi (by have := HT.out.lenC (k := 1) (by omega); omega)
                  rw [hn1, HPC1.out] at this
                  exact this
                have F2 : Hid (∀ m, Calls Try.prog 14 #[.slice (some ⟨b, o, none⟩) q yc0, .int .i64 Z] (wr.drewN m) fun e w' => e = .returned (.bool false) ∧ w' = wr.drewN m) := fun m => by
                  have := has_out (some ⟨b, o, none⟩) q yc0 (fun i => (C 0).getD i 0) Z (wr.drewN m) (.inr ⟨b, o, rfl, hbl, fun i hi => hcc i (by omega)⟩) (by have := HT.out.lenC (k := 0) (by omega); omega)
                  rw [hn2] at this
                  exact this
                have hqc : q ≤ yc0 := by omega
                have hqc2 : (q : Int) ≤ (yc0 : Int) := by omega
                simp only [hZ] at ce
                clear hZ hZm hn1 hn2 hcc hxl hzi hxi
                go_wp2_with fail
                go_quiet (first
                  | (go_at_call_of 14 (Value.slice ya1 pC1 yc1); refine (Hid.out F1 _).mono fun _ _ h => ⟨h.1, _, h.2⟩)
                  | (go_at_call_of 14 (Value.slice (some ⟨b, o, none⟩) q yc0); refine (Hid.out F2 _).mono fun _ _ h => ⟨h.1, _, h.2⟩))
                go_wp2
                go_roundw
                case rel => exact ⟨q + 1, by omega, by go_num, HE.out.drewN _⟩
                case measure => simp [intOf]; omega
              · have hge : ¬ ((q : Int) < (pC0 : Int)) := by omega
                clear hlt hq
                go_wp2
                rw [rounds_succ]
                go_wp2
                go_loopw [14] (fun j wr => ∃ q : Nat, q ≤ pB1 ∧ j = .int .i64 q ∧ Hid (Duo w wr V S N L b4 b5 b6 x y B C)) (fun j _ => pB1 - (intOf j).toNat)
                case atStart => exact ⟨0, Nat.zero_le _, rfl, HE.out⟩
                case round =>
                  obtain ⟨q, hq, rfl, HE⟩ := hrel
                  obtain ⟨d40, d41, d50, d51, d60, d61⟩ := HE.out.cells
                  rw [HX0.out, HPB0.out] at d50
                  rw [HX1.out, HPB1.out] at d51
                  rw [HY0.out, HPC0.out] at d60
                  rw [HY1.out, HPC1.out] at d61
                  clear d40 d41 d60 d61
                  by_cases hlt : q < pB1
                  · have hqn : (q : Int) < (pB1 : Int) := by omega
                    have hlen : q < (B 1).length := by rw [HPB1.out]; exact hlt
                    obtain ⟨_, _, hxe, hxl, hxi⟩ := row_ints (HE.out.rowB 1 (by omega))
                    rw [HX1.out] at hxe
                    cases hxe
                    obtain ⟨_, _, hze, _, hzi⟩ := row_ints (HE.out.rowB 0 (by omega))
                    rw [HX0.out] at hze
                    cases hze
                    obtain ⟨b, o, rfl, hbl, hcc⟩ := hxi.resolve_left (by omega)
                    have ce := hcc q hlen
                    obtain ⟨Z, hZ⟩ : ∃ Z, (B 1).getD q 0 = Z := ⟨_, rfl⟩
                    have hZm : Z ∈ B 1 := by rw [← hZ]; simp [hlen]
                    have hn1 : namedI (fun i => (B 0).getD i 0) (B 0).length Z = false := by
                      rw [named_mem, decide_eq_false_iff_not]
                      exact HT.out.bAp 1 0 (by omega) (by omega) (by omega) Z hZm
                    have hn2 : namedI (fun i => (B 1).getD i 0) q Z = false := by
                      unfold namedI
                      rw [decide_eq_false_iff_not]
                      rintro ⟨i, hi, e⟩
                      have hnd := HT.out.bNd 1 (by omega)
                      have hil : i < (B 1).length := by omega
                      refine List.pairwise_iff_getElem.1 hnd i q hil hlen hi ?_
                      have e1 : (B 1).getD i 0 = (B 1)[i] := by simp [hil]
                      have e2 : (B 1).getD q 0 = (B 1)[q] := by simp [hlen]
                      rw [← e1, ← e2, hZ]; exact e
                    have F1 : Hid (∀ m, Calls Try.prog 14 #[.slice xa0 pB0 xc0, .int .i64 Z] (wr.drewN m) fun e w' => e = .returned (.bool false) ∧ w' = wr.drewN m) := fun m => by
                      have := has_out xa0 (B 0).length xc0 _ Z (wr.drewN m) hzi (by have := HT.out.lenB (k := 0) (by omega); omega)
                      rw [hn1, HPB0.out] at this
                      exact this
                    have F2 : Hid (∀ m, Calls Try.prog 14 #[.slice (some ⟨b, o, none⟩) q xc1, .int .i64 Z] (wr.drewN m) fun e w' => e = .returned (.bool false) ∧ w' = wr.drewN m) := fun m => by
                      have := has_out (some ⟨b, o, none⟩) q xc1 (fun i => (B 1).getD i 0) Z (wr.drewN m) (.inr ⟨b, o, rfl, hbl, fun i hi => hcc i (by omega)⟩) (by have := HT.out.lenB (k := 1) (by omega); omega)
                      rw [hn2] at this
                      exact this
                    have hqc : q ≤ xc1 := by omega
                    have hqc2 : (q : Int) ≤ (xc1 : Int) := by omega
                    simp only [hZ] at ce
                    clear hZ hZm hn1 hn2 hcc hxl hzi hxi
                    go_wp2_with fail
                    go_quiet (first
                      | (go_at_call_of 14 (Value.slice xa0 pB0 xc0); refine (Hid.out F1 _).mono fun _ _ h => ⟨h.1, _, h.2⟩)
                      | (go_at_call_of 14 (Value.slice (some ⟨b, o, none⟩) q xc1); refine (Hid.out F2 _).mono fun _ _ h => ⟨h.1, _, h.2⟩))
                    go_wp2
                    go_roundw
                    case rel => exact ⟨q + 1, by omega, by go_num, HE.out.drewN _⟩
                    case measure => simp [intOf]; omega
                  · have hge : ¬ ((q : Int) < (pB1 : Int)) := by omega
                    clear hlt hq
                    go_wp2
                    go_loopw [15] (fun j wr => ∃ q : Nat, q ≤ pC1 ∧ j = .int .i64 q ∧ Hid (Duo w wr V S N L b4 b5 b6 x y B C)) (fun j _ => pC1 - (intOf j).toNat)
                    case atStart => exact ⟨0, Nat.zero_le _, rfl, HE.out⟩
                    case round =>
                      obtain ⟨q, hq, rfl, HE⟩ := hrel
                      obtain ⟨d40, d41, d50, d51, d60, d61⟩ := HE.out.cells
                      rw [HX0.out, HPB0.out] at d50
                      rw [HX1.out, HPB1.out] at d51
                      rw [HY0.out, HPC0.out] at d60
                      rw [HY1.out, HPC1.out] at d61
                      clear d40 d41 d50 d51
                      by_cases hlt : q < pC1
                      · have hqn : (q : Int) < (pC1 : Int) := by omega
                        have hlen : q < (C 1).length := by rw [HPC1.out]; exact hlt
                        obtain ⟨_, _, hxe, hxl, hxi⟩ := row_ints (HE.out.rowC 1 (by omega))
                        rw [HY1.out] at hxe
                        cases hxe
                        obtain ⟨_, _, hze, _, hzi⟩ := row_ints (HE.out.rowC 0 (by omega))
                        rw [HY0.out] at hze
                        cases hze
                        obtain ⟨b, o, rfl, hbl, hcc⟩ := hxi.resolve_left (by omega)
                        have ce := hcc q hlen
                        obtain ⟨Z, hZ⟩ : ∃ Z, (C 1).getD q 0 = Z := ⟨_, rfl⟩
                        have hZm : Z ∈ C 1 := by rw [← hZ]; simp [hlen]
                        have hn1 : namedI (fun i => (C 0).getD i 0) (C 0).length Z = false := by
                          rw [named_mem, decide_eq_false_iff_not]
                          exact HT.out.cAp 1 0 (by omega) (by omega) (by omega) Z hZm
                        have hn2 : namedI (fun i => (C 1).getD i 0) q Z = false := by
                          unfold namedI
                          rw [decide_eq_false_iff_not]
                          rintro ⟨i, hi, e⟩
                          have hnd := HT.out.cNd 1 (by omega)
                          have hil : i < (C 1).length := by omega
                          refine List.pairwise_iff_getElem.1 hnd i q hil hlen hi ?_
                          have e1 : (C 1).getD i 0 = (C 1)[i] := by simp [hil]
                          have e2 : (C 1).getD q 0 = (C 1)[q] := by simp [hlen]
                          rw [← e1, ← e2, hZ]; exact e
                        have F1 : Hid (∀ m, Calls Try.prog 14 #[.slice ya0 pC0 yc0, .int .i64 Z] (wr.drewN m) fun e w' => e = .returned (.bool false) ∧ w' = wr.drewN m) := fun m => by
                          have := has_out ya0 (C 0).length yc0 _ Z (wr.drewN m) hzi (by have := HT.out.lenC (k := 0) (by omega); omega)
                          rw [hn1, HPC0.out] at this
                          exact this
                        have F2 : Hid (∀ m, Calls Try.prog 14 #[.slice (some ⟨b, o, none⟩) q yc1, .int .i64 Z] (wr.drewN m) fun e w' => e = .returned (.bool false) ∧ w' = wr.drewN m) := fun m => by
                          have := has_out (some ⟨b, o, none⟩) q yc1 (fun i => (C 1).getD i 0) Z (wr.drewN m) (.inr ⟨b, o, rfl, hbl, fun i hi => hcc i (by omega)⟩) (by have := HT.out.lenC (k := 1) (by omega); omega)
                          rw [hn2] at this
                          exact this
                        have hqc : q ≤ yc1 := by omega
                        have hqc2 : (q : Int) ≤ (yc1 : Int) := by omega
                        simp only [hZ] at ce
                        clear hZ hZm hn1 hn2 hcc hxl hzi hxi
                        go_wp2_with fail
                        go_quiet (first
                          | (go_at_call_of 14 (Value.slice ya0 pC0 yc0); refine (Hid.out F1 _).mono fun _ _ h => ⟨h.1, _, h.2⟩)
                          | (go_at_call_of 14 (Value.slice (some ⟨b, o, none⟩) q yc1); refine (Hid.out F2 _).mono fun _ _ h => ⟨h.1, _, h.2⟩))
                        go_wp2
                        go_roundw
                        case rel => exact ⟨q + 1, by omega, by go_num, HE.out.drewN _⟩
                        case measure => simp [intOf]; omega
                      · have hge : ¬ ((q : Int) < (pC1 : Int)) := by omega
                        clear hlt hq
                        go_wp2
                        try (rw [rounds_succ]; go_wp2)
                        go_ret
                        exact ⟨rfl, HE.out.bel⟩
    · have hge1 : ¬ ((i : Int) < (n : Int)) := by omega
      obtain ⟨xa0, xc0, hx0, xl0, xi0⟩ := row_ints (HD.out.rowB 0 (by omega))
      obtain ⟨xa1, xc1, hx1, xl1, xi1⟩ := row_ints (HD.out.rowB 1 (by omega))
      obtain ⟨ya0, yc0, hy0, yl0, yi0⟩ := row_ints (HD.out.rowC 0 (by omega))
      obtain ⟨ya1, yc1, hy1, yl1, yi1⟩ := row_ints (HD.out.rowC 1 (by omega))
      have lb0 := HT.out.lenB (k := 0) (by omega)
      have lb1 := HT.out.lenB (k := 1) (by omega)
      have lc0 := HT.out.lenC (k := 0) (by omega)
      have lc1 := HT.out.lenC (k := 1) (by omega)
      have HX0 : Hid (x 0 = .slice xa0 (B 0).length xc0) := hx0
      have HX1 : Hid (x 1 = .slice xa1 (B 1).length xc1) := hx1
      have HY0 : Hid (y 0 = .slice ya0 (C 0).length yc0) := hy0
      have HY1 : Hid (y 1 = .slice ya1 (C 1).length yc1) := hy1
      obtain ⟨pB0, hpB0⟩ : ∃ n, (B 0).length = n := ⟨_, rfl⟩
      obtain ⟨pB1, hpB1⟩ : ∃ n, (B 1).length = n := ⟨_, rfl⟩
      obtain ⟨pC0, hpC0⟩ : ∃ n, (C 0).length = n := ⟨_, rfl⟩
      obtain ⟨pC1, hpC1⟩ : ∃ n, (C 1).length = n := ⟨_, rfl⟩
      have HPB0 : Hid ((B 0).length = pB0) := hpB0
      have HPB1 : Hid ((B 1).length = pB1) := hpB1
      have HPC0 : Hid ((C 0).length = pC0) := hpC0
      have HPC1 : Hid ((C 1).length = pC1) := hpC1
      rw [hpB0] at lb0
      rw [hpB1] at lb1
      rw [hpC0] at lc0
      rw [hpC1] at lc1
      obtain ⟨N, hN⟩ : ∃ N, 40 * i = N := ⟨_, rfl⟩
      have HE : Hid (Duo w wr V S N L b4 b5 b6 x y B C) := by rw [← hN]; exact HD.out
      clear HD hN HR hx0 hx1 hy0 hy1 hpB0 hpB1 hpC0 hpC1 xi0 xi1 yi0 yi1 xl0 xl1 yl0 yl1
      go_wp2
      refine wp_loop_rounds 3 ?_
      rw [rounds_succ]
      go_wp2
      go_loopw [14] (fun j wr => ∃ q : Nat, q ≤ pB0 ∧ j = .int .i64 q ∧ Hid (Duo w wr V S N L b4 b5 b6 x y B C)) (fun j _ => pB0 - (intOf j).toNat)
      case atStart => exact ⟨0, Nat.zero_le _, rfl, HE.out⟩
      case round =>
        obtain ⟨q, hq, rfl, HE⟩ := hrel
        obtain ⟨d40, d41, d50, d51, d60, d61⟩ := HE.out.cells
        rw [HX0.out, HPB0.out] at d50
        rw [HX1.out, HPB1.out] at d51
        rw [HY0.out, HPC0.out] at d60
        rw [HY1.out, HPC1.out] at d61
        clear d40 d41 d60 d61
        by_cases hlt : q < pB0
        · have hqn : (q : Int) < (pB0 : Int) := by omega
          have hlen : q < (B 0).length := by rw [HPB0.out]; exact hlt
          obtain ⟨_, _, hxe, hxl, hxi⟩ := row_ints (HE.out.rowB 0 (by omega))
          rw [HX0.out] at hxe
          cases hxe
          obtain ⟨_, _, hze, _, hzi⟩ := row_ints (HE.out.rowB 1 (by omega))
          rw [HX1.out] at hze
          cases hze
          obtain ⟨b, o, rfl, hbl, hcc⟩ := hxi.resolve_left (by omega)
          have ce := hcc q hlen
          obtain ⟨Z, hZ⟩ : ∃ Z, (B 0).getD q 0 = Z := ⟨_, rfl⟩
          have hZm : Z ∈ B 0 := by rw [← hZ]; simp [hlen]
          have hn1 : namedI (fun i => (B 1).getD i 0) (B 1).length Z = false := by
            rw [named_mem, decide_eq_false_iff_not]
            exact HT.out.bAp 0 1 (by omega) (by omega) (by omega) Z hZm
          have hn2 : namedI (fun i => (B 0).getD i 0) q Z = false := by
            unfold namedI
            rw [decide_eq_false_iff_not]
            rintro ⟨i, hi, e⟩
            have hnd := HT.out.bNd 0 (by omega)
            have hil : i < (B 0).length := by omega
            refine List.pairwise_iff_getElem.1 hnd i q hil hlen hi ?_
            have e1 : (B 0).getD i 0 = (B 0)[i] := by simp [hil]
            have e2 : (B 0).getD q 0 = (B 0)[q] := by simp [hlen]
            rw [← e1, ← e2, hZ]; exact e
          have F1 : Hid (∀ m, Calls Try.prog 14 #[.slice xa1 pB1 xc1, .int .i64 Z] (wr.drewN m) fun e w' => e = .returned (.bool false) ∧ w' = wr.drewN m) := fun m => by
            have := has_out xa1 (B 1).length xc1 _ Z (wr.drewN m) hzi (by have := HT.out.lenB (k := 1) (by omega); omega)
            rw [hn1, HPB1.out] at this
            exact this
          have F2 : Hid (∀ m, Calls Try.prog 14 #[.slice (some ⟨b, o, none⟩) q xc0, .int .i64 Z] (wr.drewN m) fun e w' => e = .returned (.bool false) ∧ w' = wr.drewN m) := fun m => by
            have := has_out (some ⟨b, o, none⟩) q xc0 (fun i => (B 0).getD i 0) Z (wr.drewN m) (.inr ⟨b, o, rfl, hbl, fun i hi => hcc i (by omega)⟩) (by have := HT.out.lenB (k := 0) (by omega); omega)
            rw [hn2] at this
            exact this
          have hqc : q ≤ xc0 := by omega
          have hqc2 : (q : Int) ≤ (xc0 : Int) := by omega
          simp only [hZ] at ce
          clear hZ hZm hn1 hn2 hcc hxl hzi hxi
          go_wp2_with fail
          go_quiet (first
            | (go_at_call_of 14 (Value.slice xa1 pB1 xc1); refine (Hid.out F1 _).mono fun _ _ h => ⟨h.1, _, h.2⟩)
            | (go_at_call_of 14 (Value.slice (some ⟨b, o, none⟩) q xc0); refine (Hid.out F2 _).mono fun _ _ h => ⟨h.1, _, h.2⟩))
          go_wp2
          go_roundw
          case rel => exact ⟨q + 1, by omega, by go_num, HE.out.drewN _⟩
          case measure => simp [intOf]; omega
        · have hge : ¬ ((q : Int) < (pB0 : Int)) := by omega
          clear hlt hq
          go_wp2
          go_loopw [15] (fun j wr => ∃ q : Nat, q ≤ pC0 ∧ j = .int .i64 q ∧ Hid (Duo w wr V S N L b4 b5 b6 x y B C)) (fun j _ => pC0 - (intOf j).toNat)
          case atStart => exact ⟨0, Nat.zero_le _, rfl, HE.out⟩
          case round =>
            obtain ⟨q, hq, rfl, HE⟩ := hrel
            obtain ⟨d40, d41, d50, d51, d60, d61⟩ := HE.out.cells
            rw [HX0.out, HPB0.out] at d50
            rw [HX1.out, HPB1.out] at d51
            rw [HY0.out, HPC0.out] at d60
            rw [HY1.out, HPC1.out] at d61
            clear d40 d41 d50 d51
            by_cases hlt : q < pC0
            · have hqn : (q : Int) < (pC0 : Int) := by omega
              have hlen : q < (C 0).length := by rw [HPC0.out]; exact hlt
              obtain ⟨_, _, hxe, hxl, hxi⟩ := row_ints (HE.out.rowC 0 (by omega))
              rw [HY0.out] at hxe
              cases hxe
              obtain ⟨_, _, hze, _, hzi⟩ := row_ints (HE.out.rowC 1 (by omega))
              rw [HY1.out] at hze
              cases hze
              obtain ⟨b, o, rfl, hbl, hcc⟩ := hxi.resolve_left (by omega)
              have ce := hcc q hlen
              obtain ⟨Z, hZ⟩ : ∃ Z, (C 0).getD q 0 = Z := ⟨_, rfl⟩
              have hZm : Z ∈ C 0 := by rw [← hZ]; simp [hlen]
              have hn1 : namedI (fun i => (C 1).getD i 0) (C 1).length Z = false := by
                rw [named_mem, decide_eq_false_iff_not]
                exact HT.out.cAp 0 1 (by omega) (by omega) (by omega) Z hZm
              have hn2 : namedI (fun i => (C 0).getD i 0) q Z = false := by
                unfold namedI
                rw [decide_eq_false_iff_not]
                rintro ⟨i, hi, e⟩
                have hnd := HT.out.cNd 0 (by omega)
                have hil : i < (C 0).length := by omega
                refine List.pairwise_iff_getElem.1 hnd i q hil hlen hi ?_
                have e1 : (C 0).getD i 0 = (C 0)[i] := by simp [hil]
                have e2 : (C 0).getD q 0 = (C 0)[q] := by simp [hlen]
                rw [← e1, ← e2, hZ]; exact e
              have F1 : Hid (∀ m, Calls Try.prog 14 #[.slice ya1 pC1 yc1, .int .i64 Z] (wr.drewN m) fun e w' => e = .returned (.bool false) ∧ w' = wr.drewN m) := fun m => by
                have := has_out ya1 (C 1).length yc1 _ Z (wr.drewN m) hzi (by have := HT.out.lenC (k := 1) (by omega); omega)
                rw [hn1, HPC1.out] at this
                exact this
              have F2 : Hid (∀ m, Calls Try.prog 14 #[.slice (some ⟨b, o, none⟩) q yc0, .int .i64 Z] (wr.drewN m) fun e w' => e = .returned (.bool false) ∧ w' = wr.drewN m) := fun m => by
                have := has_out (some ⟨b, o, none⟩) q yc0 (fun i => (C 0).getD i 0) Z (wr.drewN m) (.inr ⟨b, o, rfl, hbl, fun i hi => hcc i (by omega)⟩) (by have := HT.out.lenC (k := 0) (by omega); omega)
                rw [hn2] at this
                exact this
              have hqc : q ≤ yc0 := by omega
              have hqc2 : (q : Int) ≤ (yc0 : Int) := by omega
              simp only [hZ] at ce
              clear hZ hZm hn1 hn2 hcc hxl hzi hxi
              go_wp2_with fail
              go_quiet (first
                | (go_at_call_of 14 (Value.slice ya1 pC1 yc1); refine (Hid.out F1 _).mono fun _ _ h => ⟨h.1, _, h.2⟩)
                | (go_at_call_of 14 (Value.slice (some ⟨b, o, none⟩) q yc0); refine (Hid.out F2 _).mono fun _ _ h => ⟨h.1, _, h.2⟩))
              go_wp2
              go_roundw
              case rel => exact ⟨q + 1, by omega, by go_num, HE.out.drewN _⟩
              case measure => simp [intOf]; omega
            · have hge : ¬ ((q : Int) < (pC0 : Int)) := by omega
              clear hlt hq
              go_wp2
              rw [rounds_succ]
              go_wp2
              go_loopw [14] (fun j wr => ∃ q : Nat, q ≤ pB1 ∧ j = .int .i64 q ∧ Hid (Duo w wr V S N L b4 b5 b6 x y B C)) (fun j _ => pB1 - (intOf j).toNat)
              case atStart => exact ⟨0, Nat.zero_le _, rfl, HE.out⟩
              case round =>
                obtain ⟨q, hq, rfl, HE⟩ := hrel
                obtain ⟨d40, d41, d50, d51, d60, d61⟩ := HE.out.cells
                rw [HX0.out, HPB0.out] at d50
                rw [HX1.out, HPB1.out] at d51
                rw [HY0.out, HPC0.out] at d60
                rw [HY1.out, HPC1.out] at d61
                clear d40 d41 d60 d61
                by_cases hlt : q < pB1
                · have hqn : (q : Int) < (pB1 : Int) := by omega
                  have hlen : q < (B 1).length := by rw [HPB1.out]; exact hlt
                  obtain ⟨_, _, hxe, hxl, hxi⟩ := row_ints (HE.out.rowB 1 (by omega))
                  rw [HX1.out] at hxe
                  cases hxe
                  obtain ⟨_, _, hze, _, hzi⟩ := row_ints (HE.out.rowB 0 (by omega))
                  rw [HX0.out] at hze
                  cases hze
                  obtain ⟨b, o, rfl, hbl, hcc⟩ := hxi.resolve_left (by omega)
                  have ce := hcc q hlen
                  obtain ⟨Z, hZ⟩ : ∃ Z, (B 1).getD q 0 = Z := ⟨_, rfl⟩
                  have hZm : Z ∈ B 1 := by rw [← hZ]; simp [hlen]
                  have hn1 : namedI (fun i => (B 0).getD i 0) (B 0).length Z = false := by
                    rw [named_mem, decide_eq_false_iff_not]
                    exact HT.out.bAp 1 0 (by omega) (by omega) (by omega) Z hZm
                  have hn2 : namedI (fun i => (B 1).getD i 0) q Z = false := by
                    unfold namedI
                    rw [decide_eq_false_iff_not]
                    rintro ⟨i, hi, e⟩
                    have hnd := HT.out.bNd 1 (by omega)
                    have hil : i < (B 1).length := by omega
                    refine List.pairwise_iff_getElem.1 hnd i q hil hlen hi ?_
                    have e1 : (B 1).getD i 0 = (B 1)[i] := by simp [hil]
                    have e2 : (B 1).getD q 0 = (B 1)[q] := by simp [hlen]
                    rw [← e1, ← e2, hZ]; exact e
                  have F1 : Hid (∀ m, Calls Try.prog 14 #[.slice xa0 pB0 xc0, .int .i64 Z] (wr.drewN m) fun e w' => e = .returned (.bool false) ∧ w' = wr.drewN m) := fun m => by
                    have := has_out xa0 (B 0).length xc0 _ Z (wr.drewN m) hzi (by have := HT.out.lenB (k := 0) (by omega); omega)
                    rw [hn1, HPB0.out] at this
                    exact this
                  have F2 : Hid (∀ m, Calls Try.prog 14 #[.slice (some ⟨b, o, none⟩) q xc1, .int .i64 Z] (wr.drewN m) fun e w' => e = .returned (.bool false) ∧ w' = wr.drewN m) := fun m => by
                    have := has_out (some ⟨b, o, none⟩) q xc1 (fun i => (B 1).getD i 0) Z (wr.drewN m) (.inr ⟨b, o, rfl, hbl, fun i hi => hcc i (by omega)⟩) (by have := HT.out.lenB (k := 1) (by omega); omega)
                    rw [hn2] at this
                    exact this
                  have hqc : q ≤ xc1 := by omega
                  have hqc2 : (q : Int) ≤ (xc1 : Int) := by omega
                  simp only [hZ] at ce
                  clear hZ hZm hn1 hn2 hcc hxl hzi hxi
                  go_wp2_with fail
                  go_quiet (first
                    | (go_at_call_of 14 (Value.slice xa0 pB0 xc0); refine (Hid.out F1 _).mono fun _ _ h => ⟨h.1, _, h.2⟩)
                    | (go_at_call_of 14 (Value.slice (some ⟨b, o, none⟩) q xc1); refine (Hid.out F2 _).mono fun _ _ h => ⟨h.1, _, h.2⟩))
                  go_wp2
                  go_roundw
                  case rel => exact ⟨q + 1, by omega, by go_num, HE.out.drewN _⟩
                  case measure => simp [intOf]; omega
                · have hge : ¬ ((q : Int) < (pB1 : Int)) := by omega
                  clear hlt hq
                  go_wp2
                  go_loopw [15] (fun j wr => ∃ q : Nat, q ≤ pC1 ∧ j = .int .i64 q ∧ Hid (Duo w wr V S N L b4 b5 b6 x y B C)) (fun j _ => pC1 - (intOf j).toNat)
                  case atStart => exact ⟨0, Nat.zero_le _, rfl, HE.out⟩
                  case round =>
                    obtain ⟨q, hq, rfl, HE⟩ := hrel
                    obtain ⟨d40, d41, d50, d51, d60, d61⟩ := HE.out.cells
                    rw [HX0.out, HPB0.out] at d50
                    rw [HX1.out, HPB1.out] at d51
                    rw [HY0.out, HPC0.out] at d60
                    rw [HY1.out, HPC1.out] at d61
                    clear d40 d41 d50 d51
                    by_cases hlt : q < pC1
                    · have hqn : (q : Int) < (pC1 : Int) := by omega
                      have hlen : q < (C 1).length := by rw [HPC1.out]; exact hlt
                      obtain ⟨_, _, hxe, hxl, hxi⟩ := row_ints (HE.out.rowC 1 (by omega))
                      rw [HY1.out] at hxe
                      cases hxe
                      obtain ⟨_, _, hze, _, hzi⟩ := row_ints (HE.out.rowC 0 (by omega))
                      rw [HY0.out] at hze
                      cases hze
                      obtain ⟨b, o, rfl, hbl, hcc⟩ := hxi.resolve_left (by omega)
                      have ce := hcc q hlen
                      obtain ⟨Z, hZ⟩ : ∃ Z, (C 1).getD q 0 = Z := ⟨_, rfl⟩
                      have hZm : Z ∈ C 1 := by rw [← hZ]; simp [hlen]
                      have hn1 : namedI (fun i => (C 0).getD i 0) (C 0).length Z = false := by
                        rw [named_mem, decide_eq_false_iff_not]
                        exact HT.out.cAp 1 0 (by omega) (by omega) (by omega) Z hZm
                      have hn2 : namedI (fun i => (C 1).getD i 0) q Z = false := by
                        unfold namedI
                        rw [decide_eq_false_iff_not]
                        rintro ⟨i, hi, e⟩
                        have hnd := HT.out.cNd 1 (by omega)
                        have hil : i < (C 1).length := by omega
                        refine List.pairwise_iff_getElem.1 hnd i q hil hlen hi ?_
                        have e1 : (C 1).getD i 0 = (C 1)[i] := by simp [hil]
                        have e2 : (C 1).getD q 0 = (C 1)[q] := by simp [hlen]
                        rw [← e1, ← e2, hZ]; exact e
                      have F1 : Hid (∀ m, Calls Try.prog 14 #[.slice ya0 pC0 yc0, .int .i64 Z] (wr.drewN m) fun e w' => e = .returned (.bool false) ∧ w' = wr.drewN m) := fun m => by
                        have := has_out ya0 (C 0).length yc0 _ Z (wr.drewN m) hzi (by have := HT.out.lenC (k := 0) (by omega); omega)
                        rw [hn1, HPC0.out] at this
                        exact this
                      have F2 : Hid (∀ m, Calls Try.prog 14 #[.slice (some ⟨b, o, none⟩) q yc1, .int .i64 Z] (wr.drewN m) fun e w' => e = .returned (.bool false) ∧ w' = wr.drewN m) := fun m => by
                        have := has_out (some ⟨b, o, none⟩) q yc1 (fun i => (C 1).getD i 0) Z (wr.drewN m) (.inr ⟨b, o, rfl, hbl, fun i hi => hcc i (by omega)⟩) (by have := HT.out.lenC (k := 1) (by omega); omega)
                        rw [hn2] at this
                        exact this
                      have hqc : q ≤ yc1 := by omega
                      have hqc2 : (q : Int) ≤ (yc1 : Int) := by omega
                      simp only [hZ] at ce
                      clear hZ hZm hn1 hn2 hcc hxl hzi hxi
                      go_wp2_with fail
                      go_quiet (first
                        | (go_at_call_of 14 (Value.slice ya0 pC0 yc0); refine (Hid.out F1 _).mono fun _ _ h => ⟨h.1, _, h.2⟩)
                        | (go_at_call_of 14 (Value.slice (some ⟨b, o, none⟩) q yc1); refine (Hid.out F2 _).mono fun _ _ h => ⟨h.1, _, h.2⟩))
                      go_wp2
                      go_roundw
                      case rel => exact ⟨q + 1, by omega, by go_num, HE.out.drewN _⟩
                      case measure => simp [intOf]; omega
                    · have hge : ¬ ((q : Int) < (pC1 : Int)) := by omega
                      clear hlt hq
                      go_wp2
                      try (rw [rounds_succ]; go_wp2)
                      go_ret
                      exact ⟨rfl, HE.out.bel⟩

set_option maxRecDepth 100000 in
theorem lifted (os : Os) (started : os.Started) (H : Type) (enc : TypeId × Value → H) :
    ReturnsInHanded {} Try.checked os 3 .any (Rows.storeApartSpec.pre6 enc Try.prog Try.f3 Rows.storeApartRow.domain false) (Rows.storeApartSpec.post enc Try.prog Try.f3 false true false false) := by
  refine returnsInHanded_of_change (C := Try.checked) own started (by kernel_rfl) Try.func3
    (ChangeSpec.witness6 (enc := enc) (C := Try.checked) false ⟨#[], #[.slice none 0 0], []⟩ 8 (by kernel_rfl) (by kernel_rfl) (by kernel_rfl) (by kernel_rfl)) ?_
  intro W base args ds gs before hval0 hW hcnd _
  have hval : ∀ (j : Nat) t v, Try.f3.params[j]? = some t → args[j]? = some v → Value.okWide Try.prog W .any base t v := hval0
  have hW' := hW
  obtain ⟨p, q, hA0, hV, rfl, hfz, hnd⟩ := hW
  have hA : DataW.TrodAll enc Try.prog W 0 (fun _ => true) true Try.f3.params.toList args.toList ds p := hA0
  rw [Try.params3] at hA hval
  obtain ⟨v0, vs0, d0, ds0, p0, q0, hargs, rfl, rfl, h0, r0⟩ := trodAll_cons hA
  obtain ⟨rfl, rfl, rfl⟩ := trodAll_nil r0
  obtain rfl : args = #[v0] := by cases args; simp_all
  obtain ⟨rfl, rfl⟩ := trodVars_none hV
  have k0 := h0
  have lt0 : ∀ x ∈ p0, x.block < W.heap.size := by obtain ⟨m, hm⟩ := k0; exact DataW.trod_lt m _ _ _ hm
  obtain ⟨a0, len0, cap0, rfl⟩ := okWide_slice Try.underlying22 (hval 0 22 v0 rfl rfl)
  obtain ⟨cs0, hl0, w0⟩ := open_bools rfl h0
  subst hl0
  clear hA0 hval0
  refine (walk a0 cap0 cs0 W w0).mono fun e W' ⟨he, bel⟩ => ?_
  subst he
  exact ⟨_, rfl, _, _, _, [], _, [], hW', trodAll_mk1 (shut_bool Try.underlying4 _), (trodAll_cons_mk (Below.trod laidOut (by kernel_rfl) (of_decide_eq_true (by kernel_rfl)) k0 bel lt0) trodAll_mk0), rfl, bel.frame _, fun h => by cases h⟩

theorem over : Rows.storeApartRow.holds Try.pinned (OpenSpec.ofChange Rows.storeApartSpec) :=
  OpenClaim.holds_of_wide 3 Try.f3 rfl rfl rfl rfl rfl rfl rfl ⟨rfl, rfl, rfl, rfl, rfl⟩ rfl rfl rfl rfl rfl (by kernel_rfl) Try.func3 (by kernel_rfl)
    (of_decide_eq_true (by kernel_rfl)) (by unfold Func.isWrapper; first | (rw [if_pos (by decide +kernel)]; kernel_rfl) | (rw [if_neg (by decide +kernel)]; exact ⟨rfl, rfl⟩))
    (fun os started H enc _ => lifted os started H enc)

theorem proved : Rows.StoreApartSaid := over
#print axioms proved
end Go.Proofs.Ythpajdhcgdllmaa.storeApart
