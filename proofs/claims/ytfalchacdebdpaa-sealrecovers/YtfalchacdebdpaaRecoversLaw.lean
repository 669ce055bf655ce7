/- Proved: for every two slices of changes and either bool, 'SealRecovers' returns true and its arguments read afterwards as before. No condition. -/
import Derived.Test.YtfalchacdebdpaaRows
import Derived.Test.YtfalchacdebdpaaMend
import Derived.Test.YtfalchacdebdpaaTwoMath
import Derived.Deep.RegionHeld3
import Derived.BigRegion
import Derived.SizedLaws
import Derived.Test.YtfalchacdebdpaaSame
import Derived.Test.YtfalchacdebdpaaLoose
import Derived.Test.YtfalchacdebdpaaArgs
import Derived.Test.YtfalchacdebdpaaRcC
namespace Go.Proofs.Ytfalchacdebdpaa.sealRecovers
open Go.ChangeShapes Go.WideShapes Go.ChangeAt Go.RowKit Go.Shelf
set_option linter.unusedVariables false

theorem own : ownKnob Try.prog.godebug = none := by kernel_rfl
theorem laidOut : laidOutB Try.prog = true := by kernel_rfl
/-- Steps of whatever changes: those that are no more than words. -/
theorem steps_some (s : Nat) (num : Int) (a : Option Addr) (cap : Nat) (cs : List Chg) (hok : ChgOk cs) (hs : s < 4) (hn : 0 < num ∧ num ≤ 18446744073709551615) (w : World) (h : ChgsAt w a cs) :
    Calls Try.prog 9 #[.int .i64 s, .int .u64 num, .slice a cs.length cap] w fun e w' => ∃ v S n r, e = .returned (.tuple #[v, .int .i64 n, .int .i64 r]) ∧ OwnStps w' w.heap.size v S ∧ Below w.heap.size w w' ∧ StpsFit S := by
  have e : (296 + 248 * (s : Int)) = ((logAt s : Nat) : Int) := by
    have : logAt s = 296 + 248 * s := rfl
    omega
  have hn0 : num ≠ 0 := by omega
  by_cases hr : rightP cs = 0
  · have hctx : Ctx s num cs headN := ⟨hs, hn0, hr, base_head.zero s hs⟩
    by_cases hne : cs = []
    · subst hne
      refine (steps_none s num a cap w (by omega) (by omega) hn0).mono ?_
      rintro e w' ⟨rfl, hb⟩
      exact ⟨_, [], 0, 0, rfl, World.ownsRow_nil _ _ _ _, hb, fun x h => by cases h⟩
    · refine (steps_good s num a cap cs w h hok (by omega) (by omega) hn0 hr hne).mono ?_
      rintro e' w' ⟨v, rfl, ho, hb⟩
      rw [e] at ho ⊢
      exact ⟨v, _, _, 0, rfl, ho, hb, steps_fit hctx ⟨by omega, hn.2⟩ hok⟩
  · refine (steps_wrong s num a cap cs w h hok (by omega) (by omega) hn0 hr).mono ?_
    rintro e w' ⟨rfl, hb⟩
    exact ⟨_, [], 0, _, rfl, World.ownsRow_nil _ _ _ _, hb, fun x h => by cases h⟩
theorem getD_stp {S : List Stp} {j : Nat} (h : j < S.length) : S.getD j ⟨0, 0, 0⟩ ∈ S := by simp [h]
/-- A part of changes that came in. -/
theorem part_of {W : World} {a : Option Addr} {cap : Nat} {cs : List Chg} (h : ChgIn W a cap cs) (i j : Nat) (hij : i ≤ j) (hj : j ≤ cs.length) :
    ∃ a', (∀ w, (Instr.slice 23 (.slice a cs.length cap) (some (.int .i64 i)) (some (.int .i64 j)) none).run Try.prog w = .ok (.slice a' (j - i) (cap - i)) w) ∧ ChgsAt W a' ((cs.drop i).take (j - i)) ∧ ((cs.drop i).take (j - i)).length = j - i ∧ ChgOk ((cs.drop i).take (j - i)) := by
  have hle := h.le
  have hl : ((cs.drop i).take (j - i)).length = j - i := by rw [List.length_take, List.length_drop]; omega
  have hat : ∀ t, t < j - i → ((cs.drop i).take (j - i)).getD t (0, 0) = cs.getD (i + t) (0, 0) := fun t ht => by
    simp [List.getD, List.getElem?_drop, ht]
  have hok : ChgOk ((cs.drop i).take (j - i)) := fun t ht => by
    rw [hl] at ht
    rw [hat t ht]
    exact h.ok (i + t) (by omega)
  cases a with
  | none =>
    have h0 := h.none rfl
    obtain rfl : i = 0 := by omega
    obtain rfl : j = 0 := by omega
    refine ⟨none, fun w => ?_, .inl rfl, hl, hok⟩
    simp [go_sem, h0]
  | some x =>
    have h2 : (j : Int) ≤ (cap : Int) := by omega
    have h3 : (i : Int) ≤ (j : Int) := by omega
    refine ⟨some (if cap = i then x else x.add (i * 2)), fun w => ?_, ?_, hl, hok⟩
    · simp [go_sem, h2, h3]
      split <;> rfl
    · by_cases e : j - i = 0
      · left; exact List.length_eq_zero_iff.1 (by rw [hl, e])
      · right
        obtain ⟨b, o, e1, hb, hc⟩ := h.at_.resolve_left (fun e2 => by rw [e2] at hj; simp at hj; omega)
        cases e1
        rw [if_neg (by omega)]
        refine ⟨b, o + i * 2, by rw [add_none], hb, fun t ht => ?_⟩
        rw [hl] at ht
        rw [hat t ht]
        have := hc (i + t) (by omega)
        rw [show o + (i + t) * 2 = o + i * 2 + t * 2 by omega] at this
        exact this

theorem RowIs.only {w w' : World} {G : Nat} {g : Nat → Int} {S : List Nat} (h : RowIs w G g) (ho : Only S w w') (hG : G ∉ S) : RowIs w' G g := by
  show w'.heap[G]? = _
  rw [ho.block G h.lt hG]; exact h
theorem place_in (X : Int) (n : Int) (h0 : 0 < n) (h1 : n ≤ 100000) : ∃ q : Nat, (q : Int) < n ∧ wrap64 ((IntKind.u64.wrap X).tmod n) = (q : Int) ∧ IntKind.i64.wrap ((IntKind.u64.wrap X).tmod n) = (q : Int) := by
  have e : (IntKind.u64.wrap X).tmod n = (IntKind.u64.wrap X) % n := by
    rw [IntKind.wrap_u64, Int.tmod_eq_emod_of_nonneg (by omega)]
  have b0 := Int.emod_nonneg (IntKind.u64.wrap X) (show n ≠ 0 by omega)
  have b1 := Int.emod_lt_of_pos (IntKind.u64.wrap X) h0
  rw [e]
  refine ⟨((IntKind.u64.wrap X) % n).toNat, by omega, ?_, ?_⟩
  · unfold wrap64; omega
  · rw [IntKind.wrap_i64]; omega
theorem fresh_calls (xs : List Int) : (fresh xs).calls = 0 := rfl
theorem fresh_len (xs : List Int) : (fresh xs).sure.length = xs.length := rfl
theorem fresh_stops (xs : List Int) : (fresh xs).stops = false := rfl
theorem img_range {g : Nat → Int} (hg : ∀ i, i < 2824 → 0 ≤ g i ∧ g i ≤ 18446744073709551615) : ∀ i, i < 2824 → 0 ≤ imgF (fresh (imgL g)) i ∧ imgF (fresh (imgL g)) i ≤ 18446744073709551615 := fun i hi => by
  rw [(fresh_sure g).ext hi]; exact hg i hi
theorem img_uAt {w : World} {G : Nat} {g : Nat → Int} (h : RowIs w G g) : UAt w (some ⟨G, 0, none⟩) 2824 (imgF (fresh (imgL g))) :=
  .inr ⟨G, 0, rfl, h.lt, fun i hi => by rw [Nat.zero_add, (fresh_sure g).ext hi]; exact h.cell i hi⟩
theorem no_keys {M : Mem} {g : Nat → Int} (h : SureM M g) (hin : M.In) : M.keys = [] := by
  refine List.eq_nil_iff_forall_not_mem.2 fun x hx => ?_
  have h1 := (mem_keys M hin x).1 hx
  rw [h.loose hin x] at h1
  cases h1
/-- What recovering makes of a whole image. -/
theorem rec_whole {g : Nat → Int} (hg : ∀ i, i < 2824 → 0 ≤ g i ∧ g i ≤ 18446744073709551615) {k r : Int} {M' : Mem} (hr : RecSpec (fresh (imgL g)) k r M') (hin : M'.In) :
    (∀ rs, GoodLogs 2824 (imgF (fresh (imgL g))) rs → k = rs.length ∧ r = 0 ∧ SureM M' (updRecs (imgF (fresh (imgL g))) rs) ∧ M'.calls < 900000000 ∧ M'.keys = [] ∧ rs.length ≤ 4) ∧ ((¬ ∃ rs, GoodLogs 2824 (imgF (fresh (imgL g))) rs) → k = 0 ∧ r = 15 ∧ M'.calls = 0) := by
  have hM := (fresh_sure g).self
  refine ⟨fun rs h => ?_, fun h => ?_⟩
  · obtain ⟨h1, h2, h3⟩ := rec_all hM (fresh_stops _) (img_range hg) h (fun _ => rfl) hr
    obtain ⟨h4, _, _⟩ := spec_at hM.1 h hr
    have h5 := runP_calls (fresh (imgL g)) (making rs)
    rw [← h4, fresh_calls] at h5
    have h6 := making_lens (good_ok (img_range hg) h)
    have h7 := h.2.2.1.length_eq
    have h8 := recsTo_len (imgF (fresh (imgL g))) 4
    exact ⟨h1, h2, h3, by omega, no_keys h3 hin, by omega⟩
  · obtain ⟨h1, h2, h3⟩ := rec_bad (g := imgF (fresh (imgL g))) rfl (by rw [hM.1]; exact h) hr
    exact ⟨h1, h2, by rw [h3]; exact fresh_calls _⟩
/-- An image that lacks its last word. -/
def halfL (g : Nat → Int) : List Int := (List.range 2823).map g
theorem halfL_len (g : Nat → Int) : (halfL g).length = 2823 := by unfold halfL; rw [List.length_map, List.length_range]
theorem load_half (G : Nat) (g : Nat → Int) (w : World) (h : RowIs w G g) (hg : ∀ i, i < 2824 → 0 ≤ g i ∧ g i ≤ 18446744073709551615) :
    Calls Try.prog 14 #[.slice (some ⟨G, 0, none⟩) 2823 2824] w fun e w' => ∃ L : Lay, e = .returned (.pointer (some ⟨L.mb, 0, none⟩)) ∧ MemIs w' L (fresh (halfL g)) ∧ (∀ j ∈ L.blocks, w.heap.size ≤ j) ∧ Below w.heap.size w w' := by
  have := load_any G 0 2824 (halfL g) w (by rw [halfL_len]; omega) (by rw [halfL_len]; omega) (fun v hv => by
    unfold halfL at hv
    obtain ⟨i, hi, rfl⟩ := List.mem_map.1 hv
    exact WalkArith.wf_u64 (hg i (by have := List.mem_range.1 hi; omega))) (fun i hi => by
    rw [halfL_len] at hi
    have e : (halfL g).getD i 0 = g i := by unfold halfL; simp [List.getD, hi]
    rw [Nat.zero_add, e]; exact h.cell i (by omega))
  rw [halfL_len] at this
  exact this
theorem rec_half {g : Nat → Int} {k r : Int} {M' : Mem} (hr : RecSpec (fresh (halfL g)) k r M') : k = 0 ∧ r = 15 ∧ M'.calls = 0 := by
  obtain ⟨h1, h2, h3⟩ := rec_bad (g := fun i => (fresh (halfL g)).read i) rfl (by
    have e : (fresh (halfL g)).sure.length = 2823 := (fresh_len _).trans (halfL_len g)
    rw [e]
    rintro ⟨rs, h⟩
    have := rightB_len h.1
    omega) hr
  exact ⟨h1, h2, by rw [h3]; exact fresh_calls _⟩
theorem two_rows {w5 w6 : World} {M' : Mem} {G2 c2 : Nat} {B : Nat} {f : Nat → Int} (hl : M'.sure.length = 2824) (hrow : w6.ownsRow w5.heap.size 22 1 (.slice (some ⟨w5.heap.size, 0, none⟩) 2824 2824) 2824 (M'.image.map (Value.int .u64))) (hb : Below w5.heap.size w5 w6) (hou : OwnU w5 B G2 c2 f) (hs : SureM M' f) :
    UAt w6 (some ⟨w5.heap.size, 0, none⟩) 2824 (imgF M') ∧ UAt w6 (some ⟨G2, 0, none⟩) 2824 (imgF M') := by
  refine ⟨.inr ⟨_, 0, rfl, (World.ownsRow.lt hrow _ rfl).2, fun i hi => ?_⟩, .inr ⟨_, 0, rfl, Nat.lt_of_lt_of_le (World.ownsRow.lt hou _ rfl).2 hb.size, fun i hi => ?_⟩⟩
  · rw [Nat.zero_add, World.ownsRow.cellAt hrow i (by omega), List.getElem?_map, image_at M' i (by rw [hl]; exact hi)]
    rfl
  · rw [Nat.zero_add, hs.ext hi]
    have h1 : w5.cell? ⟨G2, i, none⟩ = some (.int .u64 (f i)) := by
      rw [World.ownsRow.cellAt hou i (by omega)]
      exact rowI_at f 2824 i hi
    exact (hb.cell (p := ⟨G2, i, none⟩) (World.ownsRow.lt hou _ rfl).2).trans h1

set_option maxHeartbeats 16000000 in
set_option maxRecDepth 100000 in
theorem walk (a : Option Addr) (ca : Nat) (cs : List Chg) (b : Option Addr) (cb : Nat) (sp : List Chg) (whole : Bool) (w : World) (hia : ChgIn w a ca cs) (hib : ChgIn w b cb sp) (hlen : cs.length ≤ 8796093022208) :
    Calls Try.prog 4 #[.slice a cs.length ca, .slice b sp.length cb, .bool whole] w fun e w' => e = .returned (.bool true) ∧ Below w.heap.size w w' := by
  obtain ⟨n, hn⟩ : ∃ n, cs.length = n := ⟨_, rfl⟩
  obtain ⟨m, hm⟩ : ∃ m, sp.length = m := ⟨_, rfl⟩
  have HN : Hid (cs.length = n) := hn
  have HM : Hid (sp.length = m) := hm
  have HIA : Hid (ChgIn w a ca cs) := hia
  have HIB : Hid (ChgIn w b cb sp) := hib
  have hm1 : m ≤ 9223372036854775807 := by have := hib.le; have := hib.max; omega
  rw [hn, hm]
  rw [hn] at hlen
  have HLV := lives_any
  have HIM := image13_any
  clear hia hib hn hm
  go_enter Try.func4, Try.ntmps4
  go_wp2_with fail
  refine (HLV _).mono ?_
  rintro e w0 ⟨rfl, b0⟩
  go_wp2_with fail
  refine (HIM _).mono ?_
  rintro e w1 ⟨G, rfl, hrow, hG, b1⟩
  have HB1 : Hid (Below w.heap.size w w1) := b0.trans (b1.mono b0.size)
  have HRW : Hid (RowIs w1 G headN) := hrow
  have HGW : Hid (w.heap.size ≤ G) := by have := b0.size; show w.heap.size ≤ G; omega
  clear HLV HIM b0 b1 hrow hG
  go_wp2
  go_loopw [8, 9, 10, 11, 12, 13, 14] (fun sv _ _ _ _ _ _ wr => ∃ (s : Nat) (f : Nat → Int), s ≤ 4 ∧ sv = .int .i64 s ∧ Hid (RowIs wr G f ∧ (∀ i, i < 2824 → 0 ≤ f i ∧ f i ≤ 18446744073709551615) ∧ Below w.heap.size w wr)) (fun sv _ _ _ _ _ _ _ => 4 - (intOf sv).toNat)
  case atStart => exact ⟨0, headN, by omega, rfl, HRW.out, fun i _ => headN_wf i, HB1.out⟩
  case round =>
    obtain ⟨s, f, hs, rfl, HF⟩ := hrel
    by_cases hs4 : s < 4
    · have hsi : (s : Int) < 4 := by omega
      obtain ⟨p, hp⟩ : ∃ p : Nat, s * n = p := ⟨_, rfl⟩
      have hpi : (s : Int) * (n : Int) = (p : Int) := by rw [← hp]; simp
      have hpl : p ≤ 3 * n := by rw [← hp]; exact Nat.mul_le_mul_right _ (by omega)
      obtain ⟨k, hk⟩ : ∃ k : Nat, p / 4 = k := ⟨_, rfl⟩
      obtain ⟨q, hq⟩ : ∃ q : Nat, n / 4 = q := ⟨_, rfl⟩
      have hkt : (p : Int).tdiv 4 = (k : Int) := by rw [← hk]; exact (Int.ofNat_tdiv p 4).symm
      have hqt : (n : Int).tdiv 4 = (q : Int) := by rw [← hq]; exact (Int.ofNat_tdiv n 4).symm
      have hkn : k ≤ n := by omega
      obtain ⟨j, hj⟩ : ∃ j : Nat, min (n : Int) ((k : Int) + (q : Int) + (s : Int)) = (j : Int) := ⟨(min (n : Int) ((k : Int) + (q : Int) + (s : Int))).toNat, by omega⟩
      obtain ⟨N, hN⟩ : ∃ N : Int, 1 + (s : Int) * 7 % 5 = N := ⟨_, rfl⟩
      have hN1 : 0 < N ∧ N ≤ 5 := by omega
      have hNw : IntKind.u64.wrap N = N := by rw [IntKind.wrap_u64]; omega
      obtain ⟨a', hsl, hca, hcl, hco⟩ := part_of HIA.out k j (by omega) (by have := HN.out; omega)
      rw [HN.out] at hsl
      have hst := fun wz (hz : Below w.heap.size w wz) => steps_some s N a' (ca - k) _ hco hs4 ⟨hN1.1, by omega⟩ wz (hca.later (Nat.le_refl _) hz)
      rw [hcl] at hst
      have HST : Hid _ := hst
      have hpb : (p : Int) ≤ 26388279066624 := by omega
      have hqb : (q : Int) ≤ (n : Int) := by omega
      have hkb : (k : Int) ≤ (n : Int) := by omega
      have hnb : (n : Int) ≤ 8796093022208 := by omega
      clear hst hca hcl hco hp hk hq hpl hN1 hNw
      go_wp2_with fail
      refine (HST.out _ HF.out.2.2).mono ?_
      rintro e w3 ⟨v, S, ns, r, rfl, hos, hb3, hsf⟩
      obtain ⟨sa, sc, rfl, hsc, _, _⟩ := hos.at
      have HO : Hid (OwnStps w3 wr.heap.size (.slice sa S.length sc) S) := hos
      have HGL : Hid (G < wr.heap.size) := HF.out.1.lt
      have HR3 : Hid (RowIs w3 G f ∧ (∀ i, i < 2824 → 0 ≤ f i ∧ f i ≤ 18446744073709551615) ∧ Below w.heap.size w w3 ∧ Only [G] w3 w3) := ⟨HF.out.1.later (Nat.le_refl _) hb3, HF.out.2.1, HF.out.2.2.trans (hb3.mono HF.out.2.2.size), Only.refl _ _⟩
      have HSF : Hid (StpsFit S) := hsf
      obtain ⟨L, hL⟩ : ∃ L, S.length = L := ⟨_, rfl⟩
      have HL : Hid (S.length = L) := hL
      have hL1 : L ≤ 9223372036854775807 := by
        have h1 := hos.2
        rcases h1 with ⟨_, h2⟩ | ⟨_, _, _, e, _, _, h4, h5, _⟩
        · omega
        · have : maxLen = 9223372036854775807 := rfl
          omega
      rw [hL] at HO ⊢
      obtain ⟨B0, hB0⟩ : ∃ B, wr.heap.size = B := ⟨_, rfl⟩
      rw [hB0] at HO HGL
      clear hL hos hsf hb3 hsc hsl HST hkt hqt hj hN hpi hB0 HF
      go_wp2
      go_loopw [14] (fun iv wr => ∃ (i : Nat) (g : Nat → Int), i ≤ L ∧ iv = .int .i64 i ∧ Hid (RowIs wr G g ∧ (∀ i, i < 2824 → 0 ≤ g i ∧ g i ≤ 18446744073709551615) ∧ Below w.heap.size w wr ∧ Only [G] w3 wr)) (fun iv _ => L - (intOf iv).toNat)
      case atStart => exact ⟨0, f, Nat.zero_le _, rfl, HR3.out⟩
      case round =>
        clear HR3
        obtain ⟨i, g, hi, rfl, HR⟩ := hrel
        by_cases hil : i < L
        · have hil2 : (i : Int) < (L : Int) := by omega
          by_cases hr : r = 0
          · subst hr
            have hos := HO.out
            rw [← HL.out] at hos
            have hos2 := OwnStps.only hos HR.out.2.2.2 (fun k hk => by
              simp only [List.mem_cons, List.not_mem_nil, or_false] at hk
              rw [hk]; exact HGL.out)
            obtain ⟨sa2, sc2, e2, _, hat, hbk⟩ := hos2.at
            cases e2
            obtain ⟨sb, so, rfl, hsb, hcs⟩ := hat.resolve_left (fun e => by have := HL.out; rw [e] at this; simp at this; omega)
            have hne : ¬ sb = G := fun e => by have := (hbk sb rfl).1; have := HGL.out; omega
            have hne2 : ¬ G = sb := fun e => hne e.symm
            obtain ⟨x0, x1, x2⟩ := hcs i (by have := HL.out; omega)
            have hmem : S.getD i ⟨0, 0, 0⟩ ∈ S := getD_stp (by have := HL.out; omega)
            have hwf := (HSF.out _ hmem).1.2
            obtain ⟨K, hK⟩ : ∃ K, (S.getD i ⟨0, 0, 0⟩).kind = K := ⟨_, rfl⟩
            obtain ⟨A, hA⟩ : ∃ A, (S.getD i ⟨0, 0, 0⟩).at_ = A := ⟨_, rfl⟩
            obtain ⟨V, hV⟩ : ∃ V, (S.getD i ⟨0, 0, 0⟩).v = V := ⟨_, rfl⟩
            rw [hK] at x0
            rw [hA] at x1
            rw [hV] at x2 hwf
            have hVb : 0 ≤ V ∧ V ≤ 18446744073709551615 := by
              simp [Lit.wf, IntKind.min, IntKind.max, IntKind.signed, IntKind.bits] at hwf
              omega
            have HVB : Hid (0 ≤ V ∧ V ≤ 18446744073709551615) := hVb
            clear hwf hVb hmem hcs hK hA hV hat hos hos2 hbk hsb
            by_cases h1 : K = 1
            · subst h1
              by_cases h2 : A < 1288
              · by_cases h3 : A ≥ 296
                · by_cases h4 : V = 0
                  · subst h4
                    go_wp2
                    go_roundw
                    case rel => exact ⟨i + 1, g, by omega, by go_num, HR.out⟩
                    case measure => simp [intOf]; omega
                  · obtain ⟨X, rfl⟩ : ∃ X : Nat, A = X := ⟨A.toNat, by omega⟩
                    obtain ⟨x3, fz⟩ : wr.cell? ⟨G, X, none⟩ = some (.int .u64 (g X)) ∧ wr.frozen? ⟨G, X, none⟩ = false := ⟨HR.out.1.cell X (by omega), HR.out.1.frozen X⟩
                    obtain ⟨u, hu⟩ : ∃ u, g X = u := ⟨_, rfl⟩
                    rw [hu] at x3
                    clear hu
                    go_wp2
                    go_region
                    all_goals
                      go_wp2
                      go_roundw
                      case rel =>
                        refine ⟨i + 1, updN g X V, by omega, by go_num, ?_, fun i hi => ?_, ?_, ?_⟩
                        · first
                            | exact HR.out.1.set X V
                            | exact (show RowIs _ _ _ from HR.out.1).set X V
                        · unfold updN
                          split
                          · exact HVB.out
                          · exact HR.out.2.1 i hi
                        · exact (HR.out.2.2.1.drew).setCell (p := ⟨G, X, none⟩) HGW.out _
                        · exact (HR.out.2.2.2.drew).setCell (p := ⟨G, X, none⟩) (by simp) _
                      case measure => simp [intOf]; omega
                · go_wp2
                  go_roundw
                  case rel => exact ⟨i + 1, g, by omega, by go_num, HR.out⟩
                  case measure => simp [intOf]; omega
              · go_wp2
                go_roundw
                case rel => exact ⟨i + 1, g, by omega, by go_num, HR.out⟩
                case measure => simp [intOf]; omega
            · go_wp2
              go_roundw
              case rel => exact ⟨i + 1, g, by omega, by go_num, HR.out⟩
              case measure => simp [intOf]; omega
          · go_wp2
            go_roundw
            case rel => exact ⟨s + 1, g, by omega, by go_num, HR.out.1, HR.out.2.1, HR.out.2.2.1⟩
            case measure => simp [intOf]; omega
        · obtain rfl : i = L := by omega
          go_wp2
          go_roundw
          case rel => exact ⟨s + 1, g, by omega, by go_num, HR.out.1, HR.out.2.1, HR.out.2.2.1⟩
          case measure => simp [intOf]; omega
    · obtain rfl : s = 4 := by omega
      clear hs4 hs
      go_wp2
      go_loopw [15] (fun iv wr => ∃ (k : Nat) (g : Nat → Int), k ≤ m ∧ k ≤ 20 ∧ iv = .int .i64 k ∧ Hid (RowIs wr G g ∧ (∀ i, i < 2824 → 0 ≤ g i ∧ g i ≤ 18446744073709551615) ∧ Below w.heap.size w wr)) (fun iv _ => 20 - (intOf iv).toNat)
      case atStart => exact ⟨0, f, Nat.zero_le _, by omega, rfl, HF.out⟩
      case round =>
        clear HF
        obtain ⟨k, g, hk, hk20, rfl, HR⟩ := hrel
        by_cases hlt : k < m
        · have hb : (k : Int) < (m : Int) := by omega
          by_cases h20 : k < 20
          · have hb20 : (k : Int) < 20 := by omega
            have hwr := HIB.out.at_.later (Nat.le_refl _) HR.out.2.2
            obtain ⟨sb, so, rfl, hbl, hc⟩ := hwr.resolve_left (fun e => by have := HM.out; rw [e] at this; simp at this; omega)
            obtain ⟨x1, x2⟩ := hc k (by have := HM.out; omega)
            have hy := (HIB.out.ok k (by have := HM.out; omega)).2
            obtain ⟨X, hX⟩ : ∃ X, (sp.getD k (0, 0)).1 = X := ⟨_, rfl⟩
            obtain ⟨Y, hY⟩ : ∃ Y, (sp.getD k (0, 0)).2 = Y := ⟨_, rfl⟩
            rw [hX] at x1
            rw [hY] at x2 hy
            have HY : Hid (0 ≤ Y ∧ Y ≤ 18446744073709551615) := by
              show 0 ≤ Y ∧ Y ≤ 18446744073709551615
              simp [Lit.wf, IntKind.min, IntKind.max, IntKind.signed, IntKind.bits] at hy
              omega
            clear hX hY hc hy hwr hbl
            obtain ⟨q, hqL, hqe1, hqe2⟩ := place_in X 2824 (by decide) (by decide)
            have hlw : IntKind.u64.wrap 2824 = 2824 := by rw [IntKind.wrap_u64]; omega
            have x3 : wr.cell? ⟨G, q, none⟩ = some (.int .u64 (g q)) := HR.out.1.cell q (by omega)
            have fz : wr.frozen? ⟨G, q, none⟩ = false := HR.out.1.frozen q
            obtain ⟨u, hu⟩ : ∃ u, g q = u := ⟨_, rfl⟩
            rw [hu] at x3
            clear hu
            go_wp2
            go_region
            all_goals
              go_wp2
              go_roundw
              case rel =>
                refine ⟨k + 1, updN g q Y, by omega, by omega, by go_num, ⟨?_, fun i hi => ?_, ?_⟩⟩
                · first
                    | exact HR.out.1.set q Y
                    | exact (show RowIs _ _ _ from HR.out.1).set q Y
                · unfold updN
                  split
                  · exact HY.out
                  · exact HR.out.2.1 i hi
                · exact (HR.out.2.2.drew).setCell (p := ⟨G, q, none⟩) HGW.out _
              case measure => simp [intOf]; omega
          · obtain rfl : k = 20 := by omega
            cases whole with
            | true =>
              go_wp2_with fail
              refine (load_img G g _ HR.out.1 HR.out.2.1).mono ?_
              rintro e w3 ⟨L, rfl, hm3, hL3, b3⟩
              have HM3 : Hid (MemIs w3 L (fresh (imgL g))) := hm3
              have HR3 : Hid (RowIs w3 G g) := HR.out.1.later (Nat.le_refl _) b3
              have HLG : Hid (G ∉ L.blocks) := fun hmem => by have := hL3 G hmem; have := HR.out.1.lt; omega
              have HLW : Hid (∀ j ∈ L.blocks, w.heap.size ≤ j) := fun j hj => by have := hL3 j hj; have := HR.out.2.2.size; omega
              have HB3 : Hid (Below w.heap.size w w3) := HR.out.2.2.trans (b3.mono HR.out.2.2.size)
              have HG : Hid (∀ i, i < 2824 → 0 ≤ g i ∧ g i ≤ 18446744073709551615) := HR.out.2.1
              clear hm3 hL3 b3 HR
              go_wp2_with fail
              refine (recover_any L _ w3 HM3.out (Nat.lt_of_le_of_lt (Nat.le_of_eq (fresh_calls _)) (by decide))).mono ?_
              rintro e w4 ⟨kk, r, M', rfl, hm4, ho4, hrs⟩
              have HM4 : Hid (MemIs w4 L M') := hm4
              have HR4 : Hid (RowIs w4 G g) := RowIs.only HR3.out ho4 HLG.out
              have HB4 : Hid (Below w.heap.size w w4) := HB3.out.trans (ho4.below HB3.out.size HLW.out)
              have HRS : Hid _ := rec_whole HG.out hrs hm4.looseIn
              clear hm4 ho4 hrs HM3 HR3 HB3
              go_wp2_with fail
              refine (recovered_any 2824 (some ⟨G, 0, none⟩) 2824 (imgF (fresh (imgL g))) w4 (img_uAt HR4.out) (img_range HG.out)).mono ?_
              rintro e w5 ⟨hsp, b5⟩
              have HM5 : Hid (MemIs w5 L M') := HM4.out.below b5 HM4.out.all_lt
              have HB5 : Hid (Below w.heap.size w w5) := HB4.out.trans (b5.mono HB4.out.size)
              rcases hsp with ⟨hno, rfl⟩ | ⟨G2, c2, rs, rfl, hgl, hou⟩
              · obtain ⟨h1, h2, h3⟩ := HRS.out.2 hno
                subst h1 h2
                have hca := calls_any L M' w5 HM5.out
                rw [h3] at hca
                have HCA : Hid _ := hca
                clear hca h3 hno b5 HRS HM4 HR4
                go_wp2_with fail
                refine Calls.mono (Hid.out HCA) ?_
                rintro e w6 ⟨rfl, hw⟩
                obtain rfl := hw.symm
                go_wp2
                go_ret
                exact ⟨rfl, HB5.out⟩
              · obtain ⟨h1, h2, h3, h4, h5, h6⟩ := HRS.out.1 rs hgl
                subst h1 h2
                have him := image_any L M' w5 HM5.out
                rw [h3.1] at him
                have HIMG : Hid _ := him
                have HSU : Hid (SureM M' (updRecs (imgF (fresh (imgL g))) rs)) := h3
                have HCL : Hid (M'.calls < 900000000) := h4
                have HKY : Hid (M'.keys = []) := h5
                have HOU : Hid (OwnU w5 w4.heap.size G2 c2 (updRecs (imgF (fresh (imgL g))) rs)) := hou
                obtain ⟨R, hR⟩ : ∃ R, rs.length = R := ⟨_, rfl⟩
                rw [hR]
                clear him h3 h4 h5 h6 hgl hou b5 HRS HM4 HR4 hR
                go_wp2_with fail
                refine Calls.mono (Hid.out HIMG) ?_
                rintro e w6 ⟨rfl, hrow, b6⟩
                obtain ⟨hx, hy⟩ := two_rows HSU.out.1 hrow b6 HOU.out HSU.out
                have HX : Hid (UAt w6 (some ⟨w5.heap.size, 0, none⟩) 2824 (imgF M')) := hx
                have HY : Hid (UAt w6 (some ⟨G2, 0, none⟩) 2824 (imgF M')) := hy
                have HM6 : Hid (MemIs w6 L M') := HM5.out.below b6 HM5.out.all_lt
                have HB6 : Hid (Below w.heap.size w w6) := HB5.out.trans (b6.mono HB5.out.size)
                clear hx hy hrow b6 HIMG
                go_wp2_with fail
                refine (same_eq w6 _ _ _ _ 2824 (imgF M') HX.out HY.out (by omega)).mono ?_
                rintro e w7 ⟨rfl, qq, hw⟩
                have HB7 : Hid (Below w6.heap.size w6 w7) := by rw [hw]; exact below_drewN (Below.refl _ _) _
                have HM7 : Hid (MemIs w7 L M') := HM6.out.below HB7.out HM6.out.all_lt
                clear hw
                go_wp2_with fail
                refine (loose_any L M' w7 HM7.out (by have := HCL.out; omega)).mono ?_
                rintro e w8 ⟨v, rfl, hr8, hnil8, b8⟩
                obtain rfl := hnil8.2 HKY.out
                have HB8 : Hid (Below w.heap.size w w8) := (HB6.out.trans (HB7.out.mono HB6.out.size)).trans (b8.mono (HB6.out.trans (HB7.out.mono HB6.out.size)).size)
                clear hr8 hnil8 b8
                go_wp2
                go_ret
                exact ⟨rfl, HB8.out⟩
            | false =>
              go_wp2_with fail
              refine (load_half G g _ HR.out.1 HR.out.2.1).mono ?_
              rintro e w3 ⟨L, rfl, hm3, hL3, b3⟩
              have HM3 : Hid (MemIs w3 L (fresh (halfL g))) := hm3
              have HR3 : Hid (RowIs w3 G g) := HR.out.1.later (Nat.le_refl _) b3
              have HLG : Hid (G ∉ L.blocks) := fun hmem => by have := hL3 G hmem; have := HR.out.1.lt; omega
              have HLW : Hid (∀ j ∈ L.blocks, w.heap.size ≤ j) := fun j hj => by have := hL3 j hj; have := HR.out.2.2.size; omega
              have HB3 : Hid (Below w.heap.size w w3) := HR.out.2.2.trans (b3.mono HR.out.2.2.size)
              have HG : Hid (∀ i, i < 2824 → 0 ≤ g i ∧ g i ≤ 18446744073709551615) := HR.out.2.1
              clear hm3 hL3 b3 HR
              go_wp2_with fail
              refine (recover_any L _ w3 HM3.out (Nat.lt_of_le_of_lt (Nat.le_of_eq (fresh_calls _)) (by decide))).mono ?_
              rintro e w4 ⟨kk, r, M', rfl, hm4, ho4, hrs⟩
              have HM4 : Hid (MemIs w4 L M') := hm4
              have HR4 : Hid (RowIs w4 G g) := RowIs.only HR3.out ho4 HLG.out
              have HB4 : Hid (Below w.heap.size w w4) := HB3.out.trans (ho4.below HB3.out.size HLW.out)
              have HRS : Hid _ := rec_half hrs
              clear hm4 ho4 hrs HM3 HR3 HB3
              go_wp2_with fail
              refine (recovered_any 2823 (some ⟨G, 0, none⟩) 2824 g w4 (HR4.out.uAt 2823 (by omega)) (fun i hi => HG.out i (by omega))).mono ?_
              rintro e w5 ⟨hsp, b5⟩
              have HM5 : Hid (MemIs w5 L M') := HM4.out.below b5 HM4.out.all_lt
              have HB5 : Hid (Below w.heap.size w w5) := HB4.out.trans (b5.mono HB4.out.size)
              rcases hsp with ⟨hno, rfl⟩ | ⟨G2, c2, rs, rfl, hgl, hou⟩
              · obtain ⟨h1, h2, h3⟩ := HRS.out
                subst h1 h2
                have hca := calls_any L M' w5 HM5.out
                rw [h3] at hca
                have HCA : Hid _ := hca
                clear hca h3 hno b5 HRS HM4 HR4
                go_wp2_with fail
                refine Calls.mono (Hid.out HCA) ?_
                rintro e w6 ⟨rfl, hw⟩
                obtain rfl := hw.symm
                go_wp2
                go_ret
                exact ⟨rfl, HB5.out⟩
              · exact absurd (rightB_len hgl.1) (by omega)
        · obtain rfl : k = m := by omega
          cases whole with
          | true =>
            go_wp2_with fail
            refine (load_img G g _ HR.out.1 HR.out.2.1).mono ?_
            rintro e w3 ⟨L, rfl, hm3, hL3, b3⟩
            have HM3 : Hid (MemIs w3 L (fresh (imgL g))) := hm3
            have HR3 : Hid (RowIs w3 G g) := HR.out.1.later (Nat.le_refl _) b3
            have HLG : Hid (G ∉ L.blocks) := fun hmem => by have := hL3 G hmem; have := HR.out.1.lt; omega
            have HLW : Hid (∀ j ∈ L.blocks, w.heap.size ≤ j) := fun j hj => by have := hL3 j hj; have := HR.out.2.2.size; omega
            have HB3 : Hid (Below w.heap.size w w3) := HR.out.2.2.trans (b3.mono HR.out.2.2.size)
            have HG : Hid (∀ i, i < 2824 → 0 ≤ g i ∧ g i ≤ 18446744073709551615) := HR.out.2.1
            clear hm3 hL3 b3 HR
            go_wp2_with fail
            refine (recover_any L _ w3 HM3.out (Nat.lt_of_le_of_lt (Nat.le_of_eq (fresh_calls _)) (by decide))).mono ?_
            rintro e w4 ⟨kk, r, M', rfl, hm4, ho4, hrs⟩
            have HM4 : Hid (MemIs w4 L M') := hm4
            have HR4 : Hid (RowIs w4 G g) := RowIs.only HR3.out ho4 HLG.out
            have HB4 : Hid (Below w.heap.size w w4) := HB3.out.trans (ho4.below HB3.out.size HLW.out)
            have HRS : Hid _ := rec_whole HG.out hrs hm4.looseIn
            clear hm4 ho4 hrs HM3 HR3 HB3
            go_wp2_with fail
            refine (recovered_any 2824 (some ⟨G, 0, none⟩) 2824 (imgF (fresh (imgL g))) w4 (img_uAt HR4.out) (img_range HG.out)).mono ?_
            rintro e w5 ⟨hsp, b5⟩
            have HM5 : Hid (MemIs w5 L M') := HM4.out.below b5 HM4.out.all_lt
            have HB5 : Hid (Below w.heap.size w w5) := HB4.out.trans (b5.mono HB4.out.size)
            rcases hsp with ⟨hno, rfl⟩ | ⟨G2, c2, rs, rfl, hgl, hou⟩
            · obtain ⟨h1, h2, h3⟩ := HRS.out.2 hno
              subst h1 h2
              have hca := calls_any L M' w5 HM5.out
              rw [h3] at hca
              have HCA : Hid _ := hca
              clear hca h3 hno b5 HRS HM4 HR4
              go_wp2_with fail
              refine Calls.mono (Hid.out HCA) ?_
              rintro e w6 ⟨rfl, hw⟩
              obtain rfl := hw.symm
              go_wp2
              go_ret
              exact ⟨rfl, HB5.out⟩
            · obtain ⟨h1, h2, h3, h4, h5, h6⟩ := HRS.out.1 rs hgl
              subst h1 h2
              have him := image_any L M' w5 HM5.out
              rw [h3.1] at him
              have HIMG : Hid _ := him
              have HSU : Hid (SureM M' (updRecs (imgF (fresh (imgL g))) rs)) := h3
              have HCL : Hid (M'.calls < 900000000) := h4
              have HKY : Hid (M'.keys = []) := h5
              have HOU : Hid (OwnU w5 w4.heap.size G2 c2 (updRecs (imgF (fresh (imgL g))) rs)) := hou
              obtain ⟨R, hR⟩ : ∃ R, rs.length = R := ⟨_, rfl⟩
              rw [hR]
              clear him h3 h4 h5 h6 hgl hou b5 HRS HM4 HR4 hR
              go_wp2_with fail
              refine Calls.mono (Hid.out HIMG) ?_
              rintro e w6 ⟨rfl, hrow, b6⟩
              obtain ⟨hx, hy⟩ := two_rows HSU.out.1 hrow b6 HOU.out HSU.out
              have HX : Hid (UAt w6 (some ⟨w5.heap.size, 0, none⟩) 2824 (imgF M')) := hx
              have HY : Hid (UAt w6 (some ⟨G2, 0, none⟩) 2824 (imgF M')) := hy
              have HM6 : Hid (MemIs w6 L M') := HM5.out.below b6 HM5.out.all_lt
              have HB6 : Hid (Below w.heap.size w w6) := HB5.out.trans (b6.mono HB5.out.size)
              clear hx hy hrow b6 HIMG
              go_wp2_with fail
              refine (same_eq w6 _ _ _ _ 2824 (imgF M') HX.out HY.out (by omega)).mono ?_
              rintro e w7 ⟨rfl, qq, hw⟩
              have HB7 : Hid (Below w6.heap.size w6 w7) := by rw [hw]; exact below_drewN (Below.refl _ _) _
              have HM7 : Hid (MemIs w7 L M') := HM6.out.below HB7.out HM6.out.all_lt
              clear hw
              go_wp2_with fail
              refine (loose_any L M' w7 HM7.out (by have := HCL.out; omega)).mono ?_
              rintro e w8 ⟨v, rfl, hr8, hnil8, b8⟩
              obtain rfl := hnil8.2 HKY.out
              have HB8 : Hid (Below w.heap.size w w8) := (HB6.out.trans (HB7.out.mono HB6.out.size)).trans (b8.mono (HB6.out.trans (HB7.out.mono HB6.out.size)).size)
              clear hr8 hnil8 b8
              go_wp2
              go_ret
              exact ⟨rfl, HB8.out⟩
          | false =>
            go_wp2_with fail
            refine (load_half G g _ HR.out.1 HR.out.2.1).mono ?_
            rintro e w3 ⟨L, rfl, hm3, hL3, b3⟩
            have HM3 : Hid (MemIs w3 L (fresh (halfL g))) := hm3
            have HR3 : Hid (RowIs w3 G g) := HR.out.1.later (Nat.le_refl _) b3
            have HLG : Hid (G ∉ L.blocks) := fun hmem => by have := hL3 G hmem; have := HR.out.1.lt; omega
            have HLW : Hid (∀ j ∈ L.blocks, w.heap.size ≤ j) := fun j hj => by have := hL3 j hj; have := HR.out.2.2.size; omega
            have HB3 : Hid (Below w.heap.size w w3) := HR.out.2.2.trans (b3.mono HR.out.2.2.size)
            have HG : Hid (∀ i, i < 2824 → 0 ≤ g i ∧ g i ≤ 18446744073709551615) := HR.out.2.1
            clear hm3 hL3 b3 HR
            go_wp2_with fail
            refine (recover_any L _ w3 HM3.out (Nat.lt_of_le_of_lt (Nat.le_of_eq (fresh_calls _)) (by decide))).mono ?_
            rintro e w4 ⟨kk, r, M', rfl, hm4, ho4, hrs⟩
            have HM4 : Hid (MemIs w4 L M') := hm4
            have HR4 : Hid (RowIs w4 G g) := RowIs.only HR3.out ho4 HLG.out
            have HB4 : Hid (Below w.heap.size w w4) := HB3.out.trans (ho4.below HB3.out.size HLW.out)
            have HRS : Hid _ := rec_half hrs
            clear hm4 ho4 hrs HM3 HR3 HB3
            go_wp2_with fail
            refine (recovered_any 2823 (some ⟨G, 0, none⟩) 2824 g w4 (HR4.out.uAt 2823 (by omega)) (fun i hi => HG.out i (by omega))).mono ?_
            rintro e w5 ⟨hsp, b5⟩
            have HM5 : Hid (MemIs w5 L M') := HM4.out.below b5 HM4.out.all_lt
            have HB5 : Hid (Below w.heap.size w w5) := HB4.out.trans (b5.mono HB4.out.size)
            rcases hsp with ⟨hno, rfl⟩ | ⟨G2, c2, rs, rfl, hgl, hou⟩
            · obtain ⟨h1, h2, h3⟩ := HRS.out
              subst h1 h2
              have hca := calls_any L M' w5 HM5.out
              rw [h3] at hca
              have HCA : Hid _ := hca
              clear hca h3 hno b5 HRS HM4 HR4
              go_wp2_with fail
              refine Calls.mono (Hid.out HCA) ?_
              rintro e w6 ⟨rfl, hw⟩
              obtain rfl := hw.symm
              go_wp2
              go_ret
              exact ⟨rfl, HB5.out⟩
            · exact absurd (rightB_len hgl.1) (by omega)

open Go.RowKit Go.Maps Go.ChangeMaps Go.Deep Go.Joins Go.WideShapes in
theorem long_of {H : Type} {enc : TypeId × Value → H} {W : World} {v : Value} {d : DataW H} {p : List MemPlace} {a : Option Addr} {len cap : Nat} (hv : v = .slice a len cap) (h : DataW.Trod enc Try.prog W 0 (fun _ => true) true 23 v d p) (hw : (d.weights Try.prog 23).all (· ≤ reachBytes) = true) : len ≤ 8796093022208 := by
  subst hv
  obtain ⟨fuel, hf⟩ := h
  rcases open_slice Try.underlying23 hf with ⟨hc, _⟩ | ⟨x, l, c, m, n', D, Pl, hc, _, hl, hm, hmm, hx0, _⟩
  · simp [Value.cells] at hc
    omega
  · simp [Value.cells] at hc
    obtain ⟨rfl, rfl, rfl⟩ := hc
    simp only [Prod.mk.injEq] at hx0
    obtain ⟨rfl, _⟩ := hx0
    have hw2 := hw
    simp only [DataW.weights, Try.underlying23, List.all_cons, Bool.and_eq_true, decide_eq_true_eq] at hw2
    have h1 := hw2.1
    have e : Try.prog.bytesOf 40 = 16 := by kernel_rfl
    simp only [List.length_map, List.length_range] at h1
    rw [e] at h1
    unfold reachBytes at h1
    omega

set_option maxRecDepth 100000 in
theorem lifted (os : Os) (started : os.Started) (H : Type) (enc : TypeId × Value → H) :
    ReturnsInHanded {} Try.checked os 4 .any (Rows.sealRecoversSpec.pre6 enc Try.prog Try.f4 Rows.sealRecoversRow.domain false) (Rows.sealRecoversSpec.post enc Try.prog Try.f4 false true false false) := by
  refine returnsInHanded_of_change_sized (C := Try.checked) own started (by kernel_rfl) Try.func4
    (ChangeSpec.witness6 (enc := enc) (C := Try.checked) false ⟨#[], #[.slice none 0 0, .slice none 0 0, .bool false], []⟩ 8 (by kernel_rfl) (by kernel_rfl) (by kernel_rfl) (by kernel_rfl)) ?_
  intro W base args ds gs before hval0 hW hcnd hsz0 _
  have hsz : (DataW.weightsEach Try.prog (Try.f4.params.toList ++ Rows.sealRecoversSpec.plain.varTypes Try.prog) (ds ++ gs)).all (· ≤ reachBytes) = true := hsz0
  clear hsz0
  have hval : ∀ (j : Nat) t v, Try.f4.params[j]? = some t → args[j]? = some v → Value.okWide Try.prog W .any base t v := hval0
  have hW' := hW
  obtain ⟨p, q, hA0, hV, rfl, hfz, hnd⟩ := hW
  have hA : DataW.TrodAll enc Try.prog W 0 (fun _ => true) true Try.f4.params.toList args.toList ds p := hA0
  rw [Try.params4] at hA hval hsz
  obtain ⟨v0, vs0, d0, ds0, p0, q0, hargs, rfl, rfl, h0, r0⟩ := trodAll_cons hA
  obtain ⟨v1, vs1, d1, ds1, p1, q1, rfl, rfl, rfl, h1, r1⟩ := trodAll_cons r0
  obtain ⟨v2, vs2, d2, ds2, p2, q2, rfl, rfl, rfl, h2, r2⟩ := trodAll_cons r1
  obtain ⟨rfl, rfl, rfl⟩ := trodAll_nil r2
  obtain rfl : args = #[v0, v1, v2] := by cases args; simp_all
  obtain ⟨rfl, rfl⟩ := trodVars_none hV
  have k0 := h0
  have lt0 : ∀ x ∈ p0, x.block < W.heap.size := by obtain ⟨m, hm⟩ := k0; exact DataW.trod_lt m _ _ _ hm
  obtain ⟨a0, len0, cap0, rfl⟩ := okWide_slice Try.underlying23 (hval 0 23 v0 rfl rfl)
  obtain ⟨cs0, hl0, w0⟩ := open_chgs rfl h0
  subst hl0
  have k1 := h1
  have lt1 : ∀ x ∈ p1, x.block < W.heap.size := by obtain ⟨m, hm⟩ := k1; exact DataW.trod_lt m _ _ _ hm
  obtain ⟨a1, len1, cap1, rfl⟩ := okWide_slice Try.underlying23 (hval 1 23 v1 rfl rfl)
  obtain ⟨cs1, hl1, w1⟩ := open_chgs rfl h1
  subst hl1
  obtain ⟨a2, rfl, rfl, rfl⟩ := open_bool Try.underlying4 (hval 2 4 v2 rfl rfl) h2
  have hlong : cs0.length ≤ 8796093022208 := by
    refine long_of rfl k0 ?_
    simp only [List.cons_append, List.nil_append, DataW.weightsEach, List.all_append, Bool.and_eq_true] at hsz
    exact hsz.1
  clear hA0 hval0
  refine (walk a0 cap0 cs0 a1 cap1 cs1 a2 W w0 w1 hlong).mono fun e W' ⟨he, bel⟩ => ?_
  subst he
  exact ⟨_, rfl, _, _, _, [], _, [], hW', trodAll_mk1 (shut_bool Try.underlying4 _), (trodAll_cons_mk (Below.trod laidOut (by kernel_rfl) (of_decide_eq_true (by kernel_rfl)) k0 bel lt0) (trodAll_cons_mk (Below.trod laidOut (by kernel_rfl) (of_decide_eq_true (by kernel_rfl)) k1 bel lt1) (trodAll_cons_mk (shut_bool Try.underlying4 _) trodAll_mk0))), rfl, bel.frame _, fun h => by cases h⟩

theorem over : Rows.sealRecoversRow.holds Try.pinned (OpenSpec.ofChange Rows.sealRecoversSpec) :=
  OpenClaim.holds_of_wide 4 Try.f4 rfl rfl rfl rfl rfl rfl rfl ⟨rfl, rfl, rfl, rfl, rfl⟩ rfl rfl rfl rfl rfl (by kernel_rfl) Try.func4 (by kernel_rfl)
    (of_decide_eq_true (by kernel_rfl)) (by unfold Func.isWrapper; first | (rw [if_pos (by decide +kernel)]; kernel_rfl) | (rw [if_neg (by decide +kernel)]; exact ⟨rfl, rfl⟩))
    (fun os started H enc _ => lifted os started H enc)

theorem proved : Rows.SealRecoversSaid := over
#print axioms proved
end Go.Proofs.Ytfalchacdebdpaa.sealRecovers
