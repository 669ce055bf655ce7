/- Contracts of the laws' image of a memory, some words of it other ones, of this layer. -/
import Derived.Test.YtdjnkibnnjobpaaChA
namespace Go.Proofs.Ytdjnkibnnjobpaa
open Go.RowKit Go.Maps Go.ChangeMaps

theorem over_head : over (fun _ => 0) headN 0 8 = headN := by
  funext j
  unfold over
  by_cases h : j < 8
  · rw [if_pos ⟨by omega, by omega⟩]; rfl
  · rw [if_neg (by omega)]
    unfold headN
    rw [if_neg (by omega), if_neg (by omega)]
theorem headN_wf (i : Nat) : 0 ≤ headN i ∧ headN i ≤ 18446744073709551615 := by
  unfold headN
  split
  · omega
  · split <;> omega
/-- A word's place in an image of 2824 words. -/
theorem place_in (X : Int) (n : Int) (h0 : 0 < n) (h1 : n ≤ 100000) : ∃ q : Nat, (q : Int) < n ∧ wrap64 ((IntKind.u64.wrap X).tmod n) = (q : Int) ∧ IntKind.i64.wrap ((IntKind.u64.wrap X).tmod n) = (q : Int) := by
  have e : (IntKind.u64.wrap X).tmod n = (IntKind.u64.wrap X) % n := by
    rw [IntKind.wrap_u64, Int.tmod_eq_emod_of_nonneg (by omega)]
  have b0 := Int.emod_nonneg (IntKind.u64.wrap X) (show n ≠ 0 by omega)
  have b1 := Int.emod_lt_of_pos (IntKind.u64.wrap X) h0
  rw [e]
  refine ⟨((IntKind.u64.wrap X) % n).toNat, by omega, ?_, ?_⟩
  · unfold wrap64; omega
  · rw [IntKind.wrap_i64]; omega


set_option maxHeartbeats 2000000 in
set_option maxRecDepth 100000 in
theorem imageSp_any (a : Option Addr) (n c : Nat) (cs : List Chg) (w : World) (h : ChgsAt w a cs) (hn : cs.length = n) (hok : ∀ i, i < n → 0 ≤ (cs.getD i (0, 0)).2 ∧ (cs.getD i (0, 0)).2 ≤ 18446744073709551615) (hcw : ∀ i, i < n → (Lit.int .i64 (cs.getD i (0, 0)).1).wf = true) (hsz : n ≤ 9223372036854775807) :
    Calls Try.prog 7 #[.slice a n c] w fun e w' => ∃ G f, e = .returned (.slice (some ⟨G, 0, none⟩) 2824 2824) ∧ RowIs w' G f ∧ (∀ i, i < 2824 → 0 ≤ f i ∧ f i ≤ 18446744073709551615) ∧ (n = 0 → f = headN) ∧ w.heap.size ≤ G ∧ Below w.heap.size w w' := by
  have HC : Hid (ChgsAt w a cs) := h
  have HK : Hid (∀ i, i < n → 0 ≤ (cs.getD i (0, 0)).2 ∧ (cs.getD i (0, 0)).2 ≤ 18446744073709551615) := hok
  have HN : Hid (cs.length = n) := hn
  have HW : Hid (∀ i, i < n → (Lit.int .i64 (cs.getD i (0, 0)).1).wf = true) := hcw
  clear h hok hn hcw
  obtain ⟨i0, hi, hz0, hz1, hz2⟩ := info_parts Try.info22
  obtain ⟨L, hL⟩ : ∃ L : Nat, L = 2824 := ⟨_, rfl⟩
  have HL : Hid (L = 2824) := hL
  have hL1 : (100 : Int) ≤ (L : Int) := by omega
  have hL2 : (L : Int) ≤ 100000 := by omega
  clear hL
  have hho := head_own
  go_enter Try.func7, Try.ntmps7
  go_wp2_with (at_make; refine wpList_make_full _ rfl _ _ 30 rfl w.heap.size 23 i0 (.int .u64 0) 1 Try.underlying30 hi hz0 hz1 _ _ _ _ L rfl rfl ?l1 ?l2 ?b2 ?b3 (Nat.le_refl _) ?_)
  case l1 => have := HL.out; omega
  case l2 => have := HL.out; omega
  case b2 => rw [hz2]; omega
  case b3 => unfold maxLen; omega
  intro w2 hown hgrow
  have R2 : Hid (RowIs w2 w.heap.size (fun _ => 0)) := by
    have e := made_row hown
    rw [HL.out] at e
    exact e
  have B2 : Below w.heap.size w w2 := (Below.refl _ _).grown hgrow (Nat.le_refl _) (fun k h => by cases h)
  clear hown hgrow
  obtain ⟨G, hG⟩ : ∃ G, w.heap.size = G := ⟨_, rfl⟩
  have HG : Hid (w.heap.size = G) := hG
  rw [hG] at R2
  go_wp2_with fail
  refine (hho _).mono ?_
  rintro e w4 ⟨rfl, hcells, hb4, hsz4⟩
  have R4 : RowIs w4 G _ := R2.out.later (Nat.le_refl _) hb4
  have B4 : Below w.heap.size w w4 := B2.trans (hb4.mono B2.size)
  obtain ⟨w5, hrun5, R5, B5⟩ := run_copy w4 G 0 _ headN (some ⟨w2.heap.size, 0, none⟩) 8 8 L 8 R4 (.inr ⟨_, 0, rfl, hsz4, fun i hi => by rw [Nat.zero_add]; exact hcells.out i hi⟩) (by have := HL.out; omega) (by rw [HL.out]; rfl) w.heap.size w B4 (by omega)
  have R5' : Hid (RowIs w5 G headN) := by have := R5.out; rw [over_head] at this; exact this
  clear hcells R4 R5
  have HB5 : Hid (Below w.heap.size w w5) := B5
  clear B5
  rw [hG]
  clear hG
  go_wp2
  go_loopw [4] (fun i wr => ∃ (k : Nat) (f : Nat → Int), k ≤ n ∧ k ≤ 100 ∧ i = .int .i64 k ∧ Hid (RowIs wr G f ∧ (∀ i, i < 2824 → 0 ≤ f i ∧ f i ≤ 18446744073709551615) ∧ (k = 0 → f = headN) ∧ Below w.heap.size w wr)) (fun i _ => 100 - (intOf i).toNat)
  case atStart => exact ⟨0, headN, Nat.zero_le _, by omega, rfl, ⟨R5'.out, fun i _ => headN_wf i, fun _ => rfl, HB5.out⟩⟩
  case round =>
    obtain ⟨k, f, hk, hk60, rfl, HR⟩ := hrel
    by_cases hlt : k < n
    · have hb : (k : Int) < (n : Int) := by omega
      by_cases h60 : k < 100
      · have hb60 : (k : Int) < 100 := by omega
        obtain ⟨b, o, rfl, hbl, hc⟩ := HC.out.resolve_left (fun e => by have := HN.out; rw [e] at this; simp at this; omega)
        have x1 := (HR.out.2.2.2.cell (p := ⟨b, o + k * 2, none⟩) hbl).trans (hc k (by have := HN.out; omega)).1
        have x2 := (HR.out.2.2.2.cell (p := ⟨b, o + k * 2 + 1, none⟩) hbl).trans (hc k (by have := HN.out; omega)).2
        have hy := HK.out k hlt
        obtain ⟨X, hX⟩ : ∃ X, (cs.getD k (0, 0)).1 = X := ⟨_, rfl⟩
        obtain ⟨Y, hY⟩ : ∃ Y, (cs.getD k (0, 0)).2 = Y := ⟨_, rfl⟩
        rw [hX] at x1
        rw [hY] at x2 hy
        have HY : Hid (0 ≤ Y ∧ Y ≤ 18446744073709551615) := hy
        clear hX hY hc hy
        obtain ⟨q, hqL, hqe1, hqe2⟩ := place_in X (L : Int) (by omega) hL2
        have hq : q < 2824 := by have := HL.out; omega
        have hlw : IntKind.u64.wrap (L : Int) = (L : Int) := by rw [IntKind.wrap_u64]; omega
        have hl0 : ¬ (L : Int) = 0 := by omega
        have x3 : wr.cell? ⟨G, q, none⟩ = some (.int .u64 (f q)) := HR.out.1.cell q hq
        have fz : wr.frozen? ⟨G, q, none⟩ = false := HR.out.1.frozen q
        have HQ : Hid (q < 2824) := hq
        clear hq
        go_wp2
        go_region
        all_goals
          go_wp2
          go_roundw
          case rel =>
            refine ⟨k + 1, updN f q Y, by omega, by omega, by go_num, ⟨?_, fun i hi => ?_, fun e => by omega, ?_⟩⟩
            · first
                | exact HR.out.1.set q Y
                | exact (show RowIs _ _ _ from HR.out.1).set q Y
            · unfold updN
              split
              · exact HY.out
              · exact HR.out.2.1 i hi
            · exact (HR.out.2.2.2.drew).setCell (p := ⟨G, q, none⟩) (by rw [← HG.out]; exact Nat.le_refl _) _
          case measure => simp [intOf]; omega
      · obtain rfl : k = 100 := by omega
        go_wp2
        go_ret
        have hl := HL.out
        subst hl
        obtain ⟨r1, r2, r3, r4⟩ := HR.out
        exact ⟨G, f, rfl, r1, r2, fun e => by omega, by rw [HG.out]; exact Nat.le_refl _, r4⟩
    · obtain rfl : k = n := by omega
      go_wp2
      go_ret
      have hl := HL.out
      subst hl
      obtain ⟨r1, r2, r3, r4⟩ := HR.out
      exact ⟨G, f, rfl, r1, r2, r3, by rw [HG.out]; exact Nat.le_refl _, r4⟩


/-- An image as a list of words. -/
def imgL (g : Nat → Int) : List Int := (List.range 2824).map g
theorem imgL_len (g : Nat → Int) : (imgL g).length = 2824 := by unfold imgL; rw [List.length_map, List.length_range]
theorem imgL_at (g : Nat → Int) (i : Nat) (hi : i < 2824) : (imgL g).getD i 0 = g i := by
  unfold imgL
  simp [List.getD, hi]
theorem fresh_sure (xs : List Int) : (fresh xs).sure = xs := rfl
theorem fresh_loose (xs : List Int) (k : Int) : (fresh xs).loose k = none := rfl
theorem fresh_read (g : Nat → Int) (i : Nat) (hi : i < 2824) : (fresh (imgL g)).read (i : Int) = g i := by
  have h : (fresh (imgL g)).has (i : Int) = true := by
    unfold Mem.has fresh
    simp only [imgL_len, Bool.and_eq_true, decide_eq_true_eq]
    omega
  unfold Mem.read
  rw [if_pos h]
  have e1 : (fresh (imgL g)).loose (i : Int) = none := fresh_loose _ _
  have e2 : (fresh (imgL g)).sure = imgL g := fresh_sure _
  rw [e1, e2, Option.getD_none, Int.toNat_natCast, imgL_at g i hi]
/-- Load of a row of 2824 words. -/
theorem load_img (G : Nat) (g : Nat → Int) (w : World) (h : RowIs w G g) (hg : ∀ i, i < 2824 → 0 ≤ g i ∧ g i ≤ 18446744073709551615) :
    Calls Try.prog 9 #[.slice (some ⟨G, 0, none⟩) 2824 2824] w fun e w' => ∃ L : Lay, e = .returned (.pointer (some ⟨L.mb, 0, none⟩)) ∧ MemIs w' L (fresh (imgL g)) ∧ (∀ j ∈ L.blocks, w.heap.size ≤ j) ∧ Below w.heap.size w w' := by
  have := load_any G 0 2824 (imgL g) w (by rw [imgL_len]; omega) (by rw [imgL_len]; omega) (fun v hv => by
    unfold imgL at hv
    obtain ⟨i, hi, rfl⟩ := List.mem_map.1 hv
    exact WalkArith.wf_u64 (hg i (List.mem_range.1 hi))) (fun i hi => by
    rw [imgL_len] at hi
    rw [Nat.zero_add, imgL_at g i hi]; exact h.cell i hi)
  rw [imgL_len] at this
  exact this
theorem image_nil (w : World) :
    Calls Try.prog 7 #[.slice none 0 0] w fun e w' => ∃ G, e = .returned (.slice (some ⟨G, 0, none⟩) 2824 2824) ∧ RowIs w' G headN ∧ w.heap.size ≤ G ∧ Below w.heap.size w w' := by
  refine (imageSp_any none 0 0 [] w (.inl rfl) rfl (fun i hi => by omega) (fun i hi => by omega) (by omega)).mono ?_
  rintro e w' ⟨G, f, rfl, h1, _, h3, h4, h5⟩
  have := h3 rfl
  subst this
  exact ⟨G, rfl, h1, h4, h5⟩

/-- A memory as it is made, of the plan's words. -/
def M0 : Mem := fresh (imgL headN)
theorem M0_sure : M0.sure = imgL headN := by unfold M0; exact fresh_sure _
theorem M0_len : M0.sure.length = 2824 := by rw [M0_sure]; exact imgL_len headN
theorem M0_read (i : Nat) (hi : i < 2824) (h2 : 2 ≤ i) : M0.read (i : Int) = 0 := by
  unfold M0
  rw [fresh_read headN i hi]
  unfold headN
  rw [if_neg (by omega), if_neg (by omega)]

end Go.Proofs.Ytdjnkibnnjobpaa
