/- Contract of the document's Steps. -/
import Derived.Test.YtfalchacdebdpaaRefC
import Derived.Test.YtfalchacdebdpaaCrB
namespace Go.Proofs.Ytfalchacdebdpaa
open Go.RowKit Go.Maps Go.ChangeMaps Go.Shelf

theorem refSteps_bad (slot num : Int) (a : Option Addr) (n cap : Nat) (w : World) (h : slot < 0 ∨ 4 ≤ slot ∨ num = 0) :
    Calls Try.prog 10 #[.int .i64 slot, .int .u64 num, .slice a n cap] w fun e w' => e = .returned (.tuple #[.slice none 0 0, .int .i64 0, .int .i64 1]) ∧ w' = w := by
  by_cases h1 : slot < 0
  · go_enter Try.func10, Try.ntmps10
    go_wp2
    go_ret3
    exact ⟨rfl, rfl⟩
  · by_cases h2 : 4 ≤ slot
    · have h3 : ¬ slot < 4 := by omega
      go_enter Try.func10, Try.ntmps10
      go_wp2
      go_ret3
      exact ⟨rfl, rfl⟩
    · obtain rfl : num = 0 := by omega
      have h3 : slot < 4 := by omega
      go_enter Try.func10, Try.ntmps10
      go_wp2
      go_ret3
      exact ⟨rfl, rfl⟩

theorem refSteps_wrong (slot num : Int) (a : Option Addr) (cap : Nat) (cs : List Chg) (w : World) (h : ChgsAt w a cs) (h0 : 0 ≤ slot) (h4 : slot < 4) (hn : num ≠ 0) (hr : rightP cs ≠ 0) :
    Calls Try.prog 10 #[.int .i64 slot, .int .u64 num, .slice a cs.length cap] w fun e w' => e = .returned (.tuple #[.slice none 0 0, .int .i64 0, .int .i64 (rightP cs)]) ∧ ∀ B, Below B w w' := by
  have HR : Hid (Calls Try.prog 12 #[.slice a cs.length cap] w fun e w' => e = .returned (.int .i64 (rightP cs)) ∧ ∀ B, Below B w w') := refRight7_any a cap cs w h
  obtain ⟨r, hr'⟩ : ∃ r, rightP cs = r := ⟨_, rfl⟩
  rw [hr'] at hr HR ⊢
  have g1 : (num == 0) = false := by simpa using hn
  have g2 : (r != 0) = true := by simpa using hr
  have g5 : ¬ slot < 0 := by omega
  have g6 : ¬ 4 ≤ slot := by omega
  clear h hr'
  go_enter Try.func10, Try.ntmps10
  go_wp2_with fail
  refine Calls.mono (Hid.out HR) ?_
  rintro e w1 ⟨rfl, b1⟩
  go_wp2
  go_ret3
  exact ⟨rfl, b1⟩

theorem refSteps_none (slot num : Int) (a : Option Addr) (cap : Nat) (w : World) (h0 : 0 ≤ slot) (h4 : slot < 4) (hn : num ≠ 0) :
    Calls Try.prog 10 #[.int .i64 slot, .int .u64 num, .slice a 0 cap] w fun e w' => e = .returned (.tuple #[.slice none 0 0, .int .i64 0, .int .i64 0]) ∧ ∀ B, Below B w w' := by
  have hrr := refRight7_any a cap [] w (.inl rfl)
  rw [right_nil] at hrr
  have HR : Hid (Calls Try.prog 12 #[.slice a 0 cap] w fun e w' => e = .returned (.int .i64 0) ∧ ∀ B, Below B w w') := hrr
  have g1 : (num == 0) = false := by simpa using hn
  have g5 : ¬ slot < 0 := by omega
  have g6 : ¬ 4 ≤ slot := by omega
  clear hrr
  go_enter Try.func10, Try.ntmps10
  go_wp2_with fail
  refine Calls.mono (Hid.out HR) ?_
  rintro e w1 ⟨rfl, b1⟩
  go_wp2
  go_ret3
  exact ⟨rfl, b1⟩

def storesOf (cs : List Chg) : List Stp := cs.map fun c => ⟨1, c.1, c.2⟩
theorem storesOf_len (cs : List Chg) : (storesOf cs).length = cs.length := by simp [storesOf]
theorem six_cells {w : World} {B : Nat} {x y z u v q : Value} {t : TypeId} (hB : w.heap.size = B) : ∀ (j : Nat) (r : Value), [x, y, z, u, v, q][j]? = some r → (w.alloc (.cells #[x, y, z, u, v, q] t)).cell? ((⟨B, 0, none⟩ : Addr).add j) = some r := by
  subst hB
  intro j r hj
  match j, hj with
  | 0, hj => simp at hj; subst hj; simp [Addr.add]
  | 1, hj => simp at hj; subst hj; simp [Addr.add]
  | 2, hj => simp at hj; subst hj; simp [Addr.add]
  | 3, hj => simp at hj; subst hj; simp [Addr.add]
  | 4, hj => simp at hj; subst hj; simp [Addr.add]
  | 5, hj => simp at hj; subst hj; simp [Addr.add]
theorem two_cells {w : World} {B : Nat} {x y : Value} {t : TypeId} (hB : w.heap.size = B) : ∀ (j : Nat) (r : Value), [x, y][j]? = some r → (w.alloc (.cells #[x, y] t)).cell? ((⟨B, 0, none⟩ : Addr).add j) = some r := by
  subst hB
  intro j r hj
  match j, hj with
  | 0, hj => simp at hj; subst hj; simp [Addr.add]
  | 1, hj => simp at hj; subst hj; simp [Addr.add]

/-- The places of the first k notes, as cells. -/
def ptsV (F : Int) (cs : List Chg) (k : Nat) : List Value := ((notesTo F cs k).map (·.1)).map (Value.int .i64)

set_option maxHeartbeats 8000000 in
set_option maxRecDepth 100000 in
theorem refSteps_good (slot num : Int) (a : Option Addr) (cap : Nat) (cs : List Chg) (w : World) (h : ChgsAt w a cs) (h0 : 0 ≤ slot) (h4 : slot < 4) (hn : num ≠ 0) (hr : rightP cs = 0) (hne : cs ≠ []) :
    Calls Try.prog 10 #[.int .i64 slot, .int .u64 num, .slice a cs.length cap] w fun e w' => ∃ v, e = .returned (.tuple #[v, .int .i64 (sealingP (296 + 248 * slot) num cs).length, .int .i64 0]) ∧ OwnRef w' w.heap.size v (stepsP (296 + 248 * slot) num cs) ∧ Below w.heap.size w w' := by
  obtain ⟨i0, hi, hz0, hz1, hz2⟩ := info_parts Try.info35
  obtain ⟨i3, hi3, hz30, hz31, hz32⟩ := info_parts Try.info3
  have hrr := refRight7_any a cap cs w h
  rw [hr] at hrr
  have HR : Hid (Calls Try.prog 12 #[.slice a cs.length cap] w fun e w' => e = .returned (.int .i64 0) ∧ ∀ B, Below B w w') := hrr
  have HIN : Hid (∀ i, i < cs.length → 0 ≤ (cs.getD i (0, 0)).1 ∧ (cs.getD i (0, 0)).1 < 2824) := fun i hi => rightP_inside hr _ (getD_in hi)
  obtain ⟨hlen, -⟩ := rightP_ok hr
  obtain ⟨F, hF⟩ : ∃ F, 296 + 248 * slot = F := ⟨_, rfl⟩
  have hF0 : 296 ≤ F := by omega
  have hF1 : F ≤ 1040 := by omega
  have hF8 : F % 8 = 0 := by omega
  have H : Hid (ChgsAt w a cs) := h
  have HSE : Hid (sealingP F num cs = storesOf (notesTo F cs cs.length) ++ (linesOf ((notesTo F cs cs.length).map (·.1))).map (fun a => ⟨2, a, 0⟩) ++ [⟨3, 0, 0⟩] ++ [⟨1, F, num⟩, ⟨2, F, 0⟩, ⟨3, 0, 0⟩]) := by
    show sealingP F num cs = _
    unfold sealingP
    rw [sure_status (by omega) hF8]; rfl
  have HST : Hid (stepsP F num cs = sealingP F num cs ++ makingP F cs) := rfl
  have HMD : Hid (∀ w2, Below w.heap.size w w2 → Calls Try.prog 37 #[.int .i64 F, .slice a cs.length cap] w2 fun e w' => ∃ v, e = .returned v ∧ OwnRef w' w2.heap.size v (makingP F cs) ∧ Below w2.heap.size w2 w') := fun w2 h2 => refMade_any F a cap cs w2 (H.out.later (Nat.le_refl _) h2) HIN.out (by omega) (by omega) hF8
  have HML : Hid ((makingP F cs).length ≤ 829) := by
    have l1 := sureP_len cs
    have l2 := sureP_len [(F, 0)]
    simp only [List.length_cons, List.length_nil] at l2
    show (makingP F cs).length ≤ 829
    unfold makingP; rw [List.length_append]; omega
  have hpos : 0 < cs.length := List.length_pos_iff.2 hne
  obtain ⟨n, hn'⟩ : ∃ n, cs.length = n := ⟨_, rfl⟩
  have HN : Hid (cs.length = n) := hn'
  have HI : Hid (∀ i, i < ((notesTo F cs n).map (·.1)).length → 0 ≤ ((notesTo F cs n).map (·.1)).getD i 0 ∧ ((notesTo F cs n).map (·.1)).getD i 0 < 2824) := by
    intro i hi
    have hm : ((notesTo F cs n).map (·.1)).getD i 0 ∈ (notesTo F cs n).map (·.1) := by rw [List.getD_eq_getElem?_getD, List.getElem?_eq_getElem hi]; exact List.getElem_mem hi
    obtain ⟨c, hc, e⟩ := List.mem_map.1 hm
    rw [← e]
    have hc' : c ∈ notesP F cs := by unfold notesP; rw [hn']; exact hc
    rcases (notes_mem c).1 hc' with rfl | ⟨j, hj, rfl | rfl⟩ <;> (dsimp only; omega)
  have HZ : Hid (notesTo F cs 0 = [(F + 1, (n : Int))]) := by rw [← hn']; rfl
  rw [hn'] at HR HIN HSE HMD hlen hpos ⊢
  rw [hF]
  have g1 : (num == 0) = false := by simpa using hn
  have g2 : ((n : Int) == 0) = false := by simp; omega
  have g5 : ¬ slot < 0 := by omega
  have g6 : ¬ 4 ≤ slot := by omega
  clear h hrr hr hn hne hn' hF8
  go_enter Try.func10, Try.ntmps10
  go_wp2_with fail
  refine Calls.mono (Hid.out HR) ?_
  rintro e w1 ⟨rfl, b1⟩
  have B1 : Hid (Below w.heap.size w w1) := b1 _
  clear b1 HR
  go_wp2
  clear hF
  go_loopw [11, 12, 13] (fun l v i wr => ∃ k : Nat, k ≤ n ∧ i = .int .i64 k ∧ Hid (OwnRef wr w.heap.size v (storesOf (notesTo F cs k))) ∧ Hid (wr.ownsRow w.heap.size 3 1 l (1 + k * 2) (ptsV F cs k)) ∧ Hid (Below w.heap.size w wr)) (fun _ _ i _ => n - (intOf i).toNat)
  case atStart =>
    have hs1 := B1.out.size
    refine ⟨0, Nat.zero_le _, rfl, ?_, ?_, (B1.out.alloc hs1 _).alloc (by simp; omega) _⟩
    · show OwnRef _ _ _ (storesOf (notesTo F cs 0))
      rw [HZ.out]
      have := World.ownsRow_lit (base := w.heap.size) (e := 35) (size := 3) (w1.alloc (.cells #[.int .i64 (F + 1)] 3)) #[.int .i64 1, .int .i64 (F + 1), .int .u64 n] 1 (by simp; omega) (by unfold maxLen; omega) rfl
      rw [World.size_alloc] at this
      exact this
    · show World.ownsRow _ _ _ _ _ _ (ptsV F cs 0)
      unfold ptsV
      rw [HZ.out]
      have := World.ownsRow.alloc (World.ownsRow_lit (base := w.heap.size) (e := 3) (size := 1) w1 #[.int .i64 (F + 1)] 1 (by omega) (by unfold maxLen; omega) rfl) (.cells #[.int .i64 1, .int .i64 (F + 1), .int .u64 n] 35)
      exact this
  case round =>
    obtain ⟨k, hk, rfl, hown, hpl, hnx⟩ := hrel
    by_cases hlt : k < n
    · obtain ⟨b, o, rfl, hb, hc⟩ := H.out.resolve_left (fun e => by have := HN.out; rw [e] at this; simp at this; omega)
      have hkn : (k : Int) < (n : Int) := by omega
      have HC : Hid (∀ w2, Below w.heap.size w w2 → w2.cell? ⟨b, o + k * 2, none⟩ = some (.int .i64 (cs.getD k (0, 0)).1) ∧ w2.cell? ⟨b, o + k * 2 + 1, none⟩ = some (.int .u64 (cs.getD k (0, 0)).2)) := fun w2 h2 => ⟨(h2.cell (p := ⟨b, o + k * 2, none⟩) hb).trans (hc k (by rw [HN.out]; exact hlt)).1, (h2.cell (p := ⟨b, o + k * 2 + 1, none⟩) hb).trans (hc k (by rw [HN.out]; exact hlt)).2⟩
      have HS : Hid (notesTo F cs (k + 1) = notesTo F cs k ++ [(F + 8 + 2 * (k : Int), (cs.getD k (0, 0)).1), (F + 8 + 2 * (k : Int) + 1, (cs.getD k (0, 0)).2)]) := notesTo_succ F cs k
      have hsl := notesTo_len F cs k
      have hr := HIN.out k hlt
      clear hc
      obtain ⟨X, hX⟩ : ∃ X, (cs.getD k (0, 0)).1 = X := ⟨_, rfl⟩
      obtain ⟨Y, hY⟩ : ∃ Y, (cs.getD k (0, 0)).2 = Y := ⟨_, rfl⟩
      rw [hX] at HC HS hr
      rw [hY] at HC HS
      obtain ⟨hr0, hr1⟩ := hr
      obtain ⟨x1, x2⟩ := HC.out wr hnx.out
      have hbs := hnx.out.size
      obtain ⟨P, hP⟩ : ∃ P, F + 8 + 2 * (k : Int) = P := ⟨_, rfl⟩
      have hP9 : F + 9 + 2 * (k : Int) = P + 1 := by omega
      have hPb : 0 ≤ P ∧ P ≤ 3000 := by omega
      obtain ⟨hPb0, hPb1⟩ := hPb
      have w1' : IntKind.u64.wrap X = X := by rw [IntKind.wrap_u64]; omega
      have w2' : IntKind.i64.wrap (F + 9) = F + 9 := by rw [IntKind.wrap_i64]; omega
      have w3' : IntKind.i64.wrap (F + 8) = F + 8 := by rw [IntKind.wrap_i64]; omega
      have w4' : IntKind.i64.wrap (2 * (k : Int)) = 2 * (k : Int) := by rw [IntKind.wrap_i64]; omega
      have w5' : IntKind.i64.wrap P = P := by rw [IntKind.wrap_i64]; omega
      have w6' : IntKind.i64.wrap (P + 1) = P + 1 := by rw [IntKind.wrap_i64]; omega
      have HSV : Hid (stpVals (storesOf (notesTo F cs (k + 1))) = stpVals (storesOf (notesTo F cs k)) ++ [.int .i64 1, .int .i64 P, .int .u64 X, .int .i64 1, .int .i64 (P + 1), .int .u64 Y]) := by
        show stpVals (storesOf (notesTo F cs (k + 1))) = _
        rw [HS.out, hP]
        simp [storesOf, stpVals]
      clear hX hY
      go_wp2
      go_region_held3 (fun v => v.cell? ⟨b, o + k * 2, none⟩ = some (.int .i64 X) ∧ v.cell? ⟨b, o + k * 2 + 1, none⟩ = some (.int .u64 Y)) (first | go_keep | exact ⟨z1, z2⟩)
        (first
          | (refine step_append_own rfl _ _ 29 rfl w.heap.size 35 i0 (.agg #[.int .i64 0, .int .i64 0, .int .u64 0]) 3 24 Try.underlying29 hi hz0 hz1 hz2 rfl (by decide) _ _ _ rfl (World.ownsRow.drew (World.ownsRow.alloc hown.out _)) ⟨wr.heap.size, 0, none⟩ 2 2 [.int .i64 1, .int .i64 P, .int .u64 X, .int .i64 1, .int .i64 (P + 1), .int .u64 Y] rfl rfl (fun j u hj => six_cells rfl j u hj) (by intro u hu; simp at hu; rcases hu with rfl | rfl | rfl | rfl | rfl | rfl <;> rfl) (by unfold maxLen; rw [storesOf_len]; omega) (by rw [storesOf_len]; omega) (by simp; omega) ?_; intro v2 w2 ho2 hg2 _; have hB2 : Below w.heap.size w w2 := ((hnx.out.alloc (by omega) _).drew).grown hg2 (by simp; omega) (fun j h => (World.ownsRow.lt hown.out j h).1); obtain ⟨z1, z2⟩ := HC.out w2 hB2)
          | go_keep)
      have hpl2 : Hid (w2.ownsRow w.heap.size 3 1 u11 (1 + k * 2) (ptsV F cs k)) := World.ownsRow.kept (World.ownsRow.drew (World.ownsRow.alloc hpl.out _)) hg2 (own_ne hpl.out hown.out (by decide))
      have hown2 : Hid (OwnRef w2 w.heap.size v2 (storesOf (notesTo F cs (k + 1)))) := by
        show w2.ownsRow w.heap.size 35 3 v2 _ _
        rw [HSV.out, storesOf_len, notesTo_len]
        rw [storesOf_len, hsl] at ho2
        have e : 1 + (k + 1) * 2 = 1 + k * 2 + 2 := by omega
        rw [e]; exact ho2
      have HB2 : Hid (Below w.heap.size w w2) := hB2
      have HPN : Hid (ptsV F cs (k + 1) = ptsV F cs k ++ [.int .i64 P, .int .i64 (P + 1)]) := by
        show ptsV F cs (k + 1) = _
        unfold ptsV
        rw [HS.out, hP, List.map_append, List.map_append]; rfl
      clear ho2 hg2 hB2 hown hpl hnx z1 z2 x1 x2
      go_wp2_with (first
        | (at_builtin; refine wpList_append_own _ rfl _ _ 50 rfl w.heap.size 3 i3 (.int .i64 0) 1 8 Try.underlying50 hi3 hz30 hz31 hz32 rfl (by decide) u11 (1 + k * 2) (ptsV F cs k) rfl (World.ownsRow.alloc hpl2.out _) ⟨w2.heap.size, 0, none⟩ 2 2 [.int .i64 P, .int .i64 (P + 1)] rfl rfl (fun j u hj => two_cells rfl j u hj) (by intro u hu; simp at hu; rcases hu with rfl | rfl <;> rfl) (by unfold maxLen; omega) (by omega) (by have := HB2.out.size; simp; omega) ?_)
        | go_in)
      intro v3 w3 hp3 hg3 _
      have hnx3 : Hid (Below w.heap.size w w3) := (HB2.out.alloc HB2.out.size _).grown hg3 (by have := HB2.out.size; simp; omega) (fun j h => (World.ownsRow.lt hpl2.out j h).1)
      have hown3 : Hid (OwnRef w3 w.heap.size v2 (storesOf (notesTo F cs (k + 1)))) := World.ownsRow.kept (World.ownsRow.alloc hown2.out _) hg3 (own_ne hown2.out hpl2.out (by decide))
      have hpl3 : Hid (w3.ownsRow w.heap.size 3 1 v3 (1 + (k + 1) * 2) (ptsV F cs (k + 1))) := by
        show w3.ownsRow w.heap.size 3 1 v3 (1 + (k + 1) * 2) (ptsV F cs (k + 1))
        rw [HPN.out]
        have e : 1 + (k + 1) * 2 = 1 + k * 2 + 2 := by omega
        rw [e]; exact hp3
      clear hp3 hg3 hown2 hpl2
      go_wp2
      go_roundw
      case rel => exact ⟨k + 1, by omega, by go_num, hown3.out, hpl3.out, hnx3.out⟩
      case measure => simp [intOf]; omega
    · obtain rfl : k = n := by omega
      obtain ⟨hpn, pa, pc, rfl, hpi⟩ := ints_own hpl.out
      have hlr := refLines_any pa pc ((notesTo F cs k).map (·.1)) wr hpi HI.out (by rw [hpn]; omega)
      rw [hpn] at hlr
      have HLR : Hid (Calls Try.prog 35 #[.slice pa (1 + k * 2) pc] wr fun e w' => ∃ v, e = .returned v ∧ OwnRef w' wr.heap.size v ((linesOf ((notesTo F cs k).map (·.1))).map fun a => ⟨2, a, 0⟩) ∧ Below wr.heap.size wr w') := hlr
      have hsl : (storesOf (notesTo F cs k)).length = 1 + k * 2 := by rw [storesOf_len, notesTo_len]
      have hll := linesOf_len ((notesTo F cs k).map (·.1))
      have HBW := hnx.out.size
      clear hlr hpi hpl hpn
      obtain ⟨LS, hLS⟩ : ∃ LS, linesOf ((notesTo F cs k).map (·.1)) = LS := ⟨_, rfl⟩
      obtain ⟨S0, hS0⟩ : ∃ S, storesOf (notesTo F cs k) = S := ⟨_, rfl⟩
      rw [hS0] at hown HSE hsl
      rw [hLS] at HLR HSE hll
      clear hLS hS0
      go_wp2_with (first
        | (go_at_call 35; refine Calls.mono (Hid.out HLR) ?_; rintro e w1 ⟨vl, rfl, hl1, b1⟩; have hs1 := b1.size; have hown1 := hown.out.later (Nat.le_refl _) b1)
        | (at_builtin; refine wpList_refApp _ rfl _ _ rfl w.heap.size wr.heap.size u12 vl S0 (LS.map fun a => ⟨2, a, 0⟩) rfl rfl hown1 hl1 (by omega) (by rw [List.length_map]; omega) ?_)
        | fail)
      intro v2 w2 hown2 hg2
      have hnx2 : Below w.heap.size w w2 := (hnx.out.trans (b1.mono HBW)).grown hg2 (by omega) (fun j h => (World.ownsRow.lt hown1 j h).1)
      have HO2 : Hid (OwnRef w2 w.heap.size v2 (S0 ++ LS.map fun a => ⟨2, a, 0⟩)) := hown2
      have hl2 : (S0 ++ LS.map fun a => (⟨2, a, 0⟩ : Stp)).length = 1 + k * 2 + LS.length := by rw [List.length_append, List.length_map, hsl]
      obtain ⟨S2, hS2⟩ : ∃ S, S0 ++ LS.map (fun a => (⟨2, a, 0⟩ : Stp)) = S := ⟨_, rfl⟩
      rw [hS2] at HO2 HSE hl2
      have HLB : Hid (S2.length + 1 ≤ maxLen ∧ (S2.length + 1) * 24 ≤ 140737488355328) := by show S2.length + 1 ≤ maxLen ∧ _; unfold maxLen; omega
      have HSB : Hid (w.heap.size ≤ (w2.alloc (.cells #[.int .i64 3, .int .i64 0, .int .u64 0] 35)).heap.size) := by show w.heap.size ≤ _; have := hnx2.size; rw [World.size_alloc]; omega
      clear hS2 hown2 hg2 hown1 hl1 hown b1
      go_wp2_with (first
        | (at_builtin; refine wpList_append_own _ rfl _ _ 29 rfl w.heap.size 35 i0 (.agg #[.int .i64 0, .int .i64 0, .int .u64 0]) 3 24 Try.underlying29 hi hz0 hz1 hz2 rfl (by decide) v2 S2.length (stpVals S2) rfl (World.ownsRow.alloc HO2.out _) ⟨w2.heap.size, 0, none⟩ 1 1 [.int .i64 3, .int .i64 0, .int .u64 0] rfl rfl (fun j u hj => three_cells rfl j u hj) (by intro u hu; simp at hu; rcases hu with rfl | rfl | rfl <;> rfl) HLB.out.1 HLB.out.2 HSB.out ?_)
        | fail)
      intro v3 w3 hown3' hg3 _
      have hnx3 : Below w.heap.size w w3 := (hnx2.alloc hnx2.size _).grown hg3 (by have := hnx2.size; simp; omega) (fun j h => (World.ownsRow.lt HO2.out j h).1)
      have HO3 : Hid (OwnRef w3 w.heap.size v3 (S2 ++ [⟨3, 0, 0⟩])) := OwnRef.more (by rw [hl2]; exact hown3')
      have hbs3 := hnx3.size
      have hl3 : (S2 ++ [(⟨3, 0, 0⟩ : Stp)]).length = 1 + k * 2 + LS.length + 1 := by rw [List.length_append, hl2]; rfl
      obtain ⟨S3, hS3⟩ : ∃ S, S2 ++ [(⟨3, 0, 0⟩ : Stp)] = S := ⟨_, rfl⟩
      rw [hS3] at HO3 HSE hl3
      have HL3 : Hid (S3.length + 3 ≤ 1000000) := by show S3.length + 3 ≤ 1000000; omega
      clear hown3' hg3 hS3
      go_wp2_with (first
        | (go_at_call 36; refine (refStatus_any _ _ _).mono ?_; rintro e w4 ⟨v4, rfl, ho4, b4⟩; have hs4 := b4.size; have hown4 := HO3.out.later (Nat.le_refl _) b4)
        | (at_builtin; refine wpList_refApp _ rfl _ _ rfl w.heap.size w3.heap.size v3 v4 S3 [⟨1, F, num⟩, ⟨2, F, 0⟩, ⟨3, 0, 0⟩] rfl rfl hown4 ho4 (by omega) HL3.out ?_)
        | fail)
      intro v5 w5 hown5 hg5
      have hnx5 : Below w.heap.size w w5 := (hnx3.trans (b4.mono hbs3)).grown hg5 (by omega) (fun j h => (World.ownsRow.lt hown4 j h).1)
      have HO5 : Hid (OwnRef w5 w.heap.size v5 (sealingP F num cs)) := by show OwnRef w5 w.heap.size v5 (sealingP F num cs); rw [HSE.out]; exact hown5
      have hl5 : (sealingP F num cs).length = 1 + k * 2 + LS.length + 1 + 3 := by rw [HSE.out, List.length_append, hl3]; rfl
      have hbs5 := hnx5.size
      have HMK : Hid (Calls Try.prog 37 #[.int .i64 F, .slice a k cap] w5 fun e w' => ∃ v, e = .returned v ∧ OwnRef w' w5.heap.size v (makingP F cs) ∧ Below w5.heap.size w5 w') := HMD.out w5 hnx5
      obtain ⟨va, vc, hv5, -⟩ := ownsRow_formK HO5.out
      subst hv5
      obtain ⟨S5, hS5⟩ : ∃ S, sealingP F num cs = S := ⟨_, rfl⟩
      obtain ⟨S6, hS6⟩ : ∃ S, makingP F cs = S := ⟨_, rfl⟩
      have HS5 : Hid (sealingP F num cs = S5) := hS5
      rw [hS5] at HO5 hl5 HST ⊢
      rw [hS6] at HMK HML HST
      have HL5 : Hid (S5.length + S6.length ≤ 1000000) := by show S5.length + S6.length ≤ 1000000; have := HML.out; omega
      clear hown5 hg5 hown4 ho4 hS5 hS6 hl5 b4
      go_wp2_with (first
        | (go_at_call 37; refine Calls.mono (Hid.out HMK) ?_; rintro e w6 ⟨v6, rfl, ho6, b6⟩; have hs6 := b6.size; have hown6 := HO5.out.later (Nat.le_refl _) b6)
        | (at_builtin; refine wpList_refApp _ rfl _ _ rfl w.heap.size w5.heap.size (.slice va S5.length vc) v6 S5 S6 rfl rfl hown6 ho6 (by omega) HL5.out ?_)
        | fail)
      intro v7 w7 hown7 hg7
      have hnx7 : Below w.heap.size w w7 := (hnx5.trans (b6.mono hbs5)).grown hg7 (by omega) (fun j h => (World.ownsRow.lt hown6 j h).1)
      have HO7 : Hid (OwnRef w7 w.heap.size v7 (stepsP F num cs)) := by show OwnRef w7 w.heap.size v7 (stepsP F num cs); rw [HST.out]; exact hown7
      clear hown7 hg7 hown6 ho6
      go_wp2
      go_ret3
      refine ⟨v7, ?_, HO7.out, hnx7⟩
      rw [HS5.out]
      exact rfl

end Go.Proofs.Ytfalchacdebdpaa
