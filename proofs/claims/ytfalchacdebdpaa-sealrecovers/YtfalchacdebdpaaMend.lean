/- Contract of the law's mend. -/
import Derived.Test.YtfalchacdebdpaaArgsC
namespace Go.Proofs.Ytfalchacdebdpaa
open Go.RowKit Go.Maps Go.ChangeMaps Go.Shelf

theorem stop_same (M : Mem) (n : Int) : (M.stop n).sure = M.sure ∧ (M.stop n).loose = M.loose ∧ (M.stop n).way = M.way ∧ (M.stop n).calls = M.calls := by
  unfold Mem.stop; split <;> exact ⟨rfl, rfl, rfl, rfl⟩
theorem stop_img (M : Mem) (n : Int) : imgF (M.stop n) = imgF M := by
  obtain ⟨h1, h2, _, _⟩ := stop_same M n
  funext k
  unfold imgF Mem.read Mem.has
  rw [h1, h2]
theorem Good.stop {p : Bool} {g0 : Nat → Int} {cs : List Chg} {M : Mem} (h : Good p g0 cs M) (n : Int) : Good p g0 cs (M.stop n) := by
  obtain ⟨h1, h2, h3, _⟩ := stop_same M n
  obtain ⟨hM, hs⟩ := h
  unfold Good
  rw [stop_img]
  refine ⟨⟨by rw [h1]; exact hM.1, fun k hk => ?_⟩, hs⟩
  have := hM.2 k hk
  unfold Mem.word at this ⊢
  rw [h1, h2, h3]; exact this

set_option maxHeartbeats 8000000 in
set_option maxRecDepth 100000 in
theorem mend_any (p : Bool) (g0 : Nat → Int) (cs : List Chg) (c : Ctx 1 5 cs g0) (b : Base g0) (hok : ChgOk cs) (L : Lay) (M : Mem) (W : World) (a : Option Addr) (cap : Nat) (xs : List Crs) (w : World) (hx : CrsIn W a cap xs) (h : MemIs w L M) (hg : Good p g0 cs M) (hst : M.stops = false) (hc : M.calls ≤ 100000) (hb : Below W.heap.size W w) (hL : ∀ k ∈ L.blocks, W.heap.size ≤ k) :
    Calls Try.prog 24 #[.pointer (some ⟨L.mb, 0, none⟩), .slice a xs.length cap] w fun e w' => e = .returned (.bool true) ∧ ∃ M', MemIs w' L M' ∧ Done p g0 cs M' ∧ Only L.blocks w w' := by
  have HX : Hid (CrsIn W a cap xs) := hx
  have HMR : Hid (∀ {M M' : Mem} {k r : Int}, Good p g0 cs M → RecSpec M k r M' → M'.In → ∀ ks, (r = 0 ∨ r = 14) ∧ Good p g0 cs (M'.crash ks) ∧ M'.calls ≤ M.calls + 829) := fun h1 h2 h3 ks => mend_round c b hok h1 h2 h3 ks
  have HML : Hid (∀ {M M' : Mem} {k r : Int}, Good p g0 cs M → M.stops = false → RecSpec M k r M' → r = 0 ∧ Done p g0 cs M') := fun h1 h2 h3 => mend_last c b hok h1 h2 h3
  have HL : Hid (∀ k ∈ L.blocks, W.heap.size ≤ k) := hL
  have HG : Hid (Good p g0 cs M) := hg
  have HST : Hid (M.stops = false) := hst
  have HM : Hid (MemIs w L M) := h
  have HB : Hid (Below W.heap.size W w) := hb
  obtain ⟨n, hn⟩ : ∃ n, xs.length = n := ⟨_, rfl⟩
  have HN : Hid (xs.length = n) := hn
  rw [hn]
  clear hx c b hok hL hg hst h hb hn
  go_enter Try.func24, Try.ntmps24
  go_wp2
  go_loopw [5] (fun i wr => ∃ (j : Nat) (Mj : Mem), j ≤ n ∧ j ≤ 4 ∧ i = .int .i64 j ∧ Hid (MemIs wr L Mj) ∧ Hid (Good p g0 cs Mj) ∧ Hid (Mj.stops = false) ∧ Hid (Mj.calls ≤ 100000 + 829 * j) ∧ Hid (Only L.blocks w wr)) (fun i _ => n - (intOf i).toNat)
  case atStart => exact ⟨0, M, Nat.zero_le _, by omega, rfl, HM.out, HG.out, HST.out, by show M.calls ≤ _; omega, Only.refl _ _⟩
  case round =>
    obtain ⟨j, Mj, hj, hj4, rfl, hm, hgj, hsj, hcj, hon⟩ := hrel
    have hbw : Hid (Below W.heap.size W wr) := HB.out.trans (hon.out.below HB.out.size HL.out)
    have hcc := hcj.out
    by_cases hlt : j < n ∧ j < 4
    · obtain ⟨h1, h2⟩ := hlt
      obtain ⟨bb, o, rfl, hbb, hcr⟩ := HX.out.at_.resolve_left (fun e => by have := HN.out; rw [e] at this; simp at this; omega)
      have hjn : (j : Int) < (n : Int) := by omega
      have hjn4 : (j : Int) < 4 := by omega
      obtain ⟨kv, ev, c0, c1, c2, hk, he⟩ := hcr j (by rw [HN.out]; exact h1)
      have HC : Hid (∀ w', Below W.heap.size W w' → w'.cell? ⟨bb, o + j * 3, none⟩ = some (.int .i64 (xs.getD j noCrs).at_) ∧ w'.cell? ⟨bb, o + j * 3 + 1, none⟩ = some kv) := fun w' h' => ⟨(h'.cell (p := ⟨bb, o + j * 3, none⟩) hbb).trans c0, (h'.cell (p := ⟨bb, o + j * 3 + 1, none⟩) hbb).trans c1⟩
      obtain ⟨A, hA⟩ : ∃ A, (xs.getD j noCrs).at_ = A := ⟨_, rfl⟩
      rw [hA] at HC
      obtain ⟨K, q1, q2, q3⟩ := rem_form A 80 (by decide) (by decide)
      obtain ⟨ks, hks⟩ : ∃ ks, (xs.getD j noCrs).keep = ks := ⟨_, rfl⟩
      rw [hks] at hk
      have HK : Hid (KeepAt W kv ks) := hk
      obtain ⟨x0, x1⟩ := HC.out wr hbw.out
      have HSTP : Hid (Calls Try.prog 49 #[.pointer (some ⟨L.mb, 0, none⟩), .int .i64 K] wr fun e w' => e = .returned (.tuple #[]) ∧ MemIs w' L (Mj.stop K) ∧ Only L.blocks wr w') := stop_any L Mj K wr hm.out (by omega)
      have HGS : Hid (Good p g0 cs (Mj.stop K)) := hgj.out.stop K
      have HCS : Hid ((Mj.stop K).calls ≤ 100000 + 829 * j) := by rw [(stop_same Mj K).2.2.2]; exact hcj.out
      obtain ⟨ka, kc, rfl, -, -⟩ := id hk
      clear hcr c0 c1 c2 hk he hA hks hm hgj hsj hcj hcc
      go_wp2_with fail
      refine Calls.mono (Hid.out HSTP) ?_
      rintro e w1 ⟨rfl, hm1, ho1⟩
      have hrc := recover_any L (Mj.stop K) w1 hm1 (by have := HCS.out; omega)
      have HRC : Hid (Calls Try.prog 15 #[.pointer (some ⟨L.mb, 0, none⟩)] w1 fun e w' => ∃ k r M', e = .returned (.tuple #[.int .i64 k, .int .i64 r]) ∧ MemIs w' L M' ∧ Only L.blocks w1 w' ∧ RecSpec (Mj.stop K) k r M') := hrc
      have HO1 : Hid (Only L.blocks w w1) := hon.out.trans ho1
      clear hrc hm1 ho1 hon hbw HSTP
      go_wp2_with fail
      refine Calls.mono (Hid.out HRC) ?_
      rintro e w2 ⟨k, r, M', rfl, hm2, ho2, hsp⟩
      obtain ⟨hr, hg2, hc2⟩ := HMR.out HGS.out hsp hm2.looseIn ks
      have HO2 : Hid (Only L.blocks w w2) := HO1.out.trans ho2
      have hbw2 : Hid (Below W.heap.size W w2) := HB.out.trans (HO2.out.below HB.out.size HL.out)
      obtain ⟨-, y1⟩ := HC.out w2 hbw2.out
      have HG2 : Hid (Good p g0 cs (M'.crash ks)) := hg2
      have HC2 : Hid (M'.calls ≤ 100000 + 829 * (j + 1)) := by show M'.calls ≤ _; have := HCS.out; omega
      have HCR : Hid (Calls Try.prog 23 #[.pointer (some ⟨L.mb, 0, none⟩), .slice ka ks.length kc] w2 fun e w' => e = .returned (.tuple #[]) ∧ MemIs w' L (M'.crash ks) ∧ Only L.blocks w2 w') := crash_any L M' _ ks w2 hm2 (by have := HC2.out; omega) (HK.out.is hbw2.out HL.out) HK.out.len
      obtain ⟨kl, hkl⟩ : ∃ n, ks.length = n := ⟨_, rfl⟩
      rw [hkl] at HCR y1 x1
      clear hm2 ho2 hsp hg2 hc2 HRC HO1 hkl x0 x1 q1 q2 q3 hbw2
      rcases hr with rfl | rfl
      · go_wp2_with fail
        refine Calls.mono (Hid.out HCR) ?_
        rintro e w3 ⟨rfl, hm3, ho3⟩
        have HM3 : Hid (MemIs w3 L (M'.crash ks)) := hm3
        have HO3 : Hid (Only L.blocks w w3) := HO2.out.trans ho3
        clear hm3 ho3 HCR HO2 y1
        go_wp2
        go_roundw
        case rel => exact ⟨j + 1, M'.crash ks, by omega, by omega, by go_num, HM3.out, HG2.out, rfl, HC2.out, HO3.out⟩
        case measure => simp [intOf]; omega
      · go_wp2_with fail
        refine Calls.mono (Hid.out HCR) ?_
        rintro e w3 ⟨rfl, hm3, ho3⟩
        have HM3 : Hid (MemIs w3 L (M'.crash ks)) := hm3
        have HO3 : Hid (Only L.blocks w w3) := HO2.out.trans ho3
        clear hm3 ho3 HCR HO2 y1
        go_wp2
        go_roundw
        case rel => exact ⟨j + 1, M'.crash ks, by omega, by omega, by go_num, HM3.out, HG2.out, rfl, HC2.out, HO3.out⟩
        case measure => simp [intOf]; omega
    · have HRC : Hid (Calls Try.prog 15 #[.pointer (some ⟨L.mb, 0, none⟩)] wr fun e w' => ∃ k r M', e = .returned (.tuple #[.int .i64 k, .int .i64 r]) ∧ MemIs w' L M' ∧ Only L.blocks wr w' ∧ RecSpec Mj k r M') := recover_any L Mj wr hm.out (by omega)
      by_cases hjn : j < n
      · have e1 : (j : Int) < (n : Int) := by omega
        have e2 : ¬ ((j : Int) < 4) := by omega
        go_wp2_with fail
        refine Calls.mono (Hid.out HRC) ?_
        rintro e w2 ⟨k, r, M', rfl, hm2, ho2, hsp⟩
        obtain ⟨rfl, hd⟩ := HML.out hgj.out hsj.out hsp
        have HD : Hid (Done p g0 cs M') := hd
        clear hsp hd
        go_wp2
        go_ret
        exact ⟨rfl, M', hm2, HD.out, hon.out.trans ho2⟩
      · have e1 : ¬ ((j : Int) < (n : Int)) := by omega
        go_wp2_with fail
        refine Calls.mono (Hid.out HRC) ?_
        rintro e w2 ⟨k, r, M', rfl, hm2, ho2, hsp⟩
        obtain ⟨rfl, hd⟩ := HML.out hgj.out hsj.out hsp
        have HD : Hid (Done p g0 cs M') := hd
        clear hsp hd
        go_wp2
        go_ret
        exact ⟨rfl, M', hm2, HD.out, hon.out.trans ho2⟩

end Go.Proofs.Ytfalchacdebdpaa
