/- BodyTouches: a new file that is written at a place has just the blocks that these bytes lie in, and one more if one of them is behind the fifth. No condition. -/
import Derived.Test.YtdjnkibnnjobpaaGreatBdZc
import Derived.Test.YtdjnkibnnjobpaaGreatRows
import Derived.Test.YtdjnkibnnjobpaaGreatChecked
namespace Go.Proofs.YtdjnkibnnjobpaaGreat.bodyTouches
open Go.RowKit Go.Maps Go.ChangeMaps Go.ChangeShapes Go.WideShapes Go.ChangeAt Go.Deep Go.Joins
set_option linter.unusedVariables false
set_option linter.unusedSimpArgs false

set_option maxHeartbeats 4000000 in
set_option maxRecDepth 100000 in
theorem walk (at_ : Int) (data : ByteArray) (w : World) (hat : -9223372036854775808 ≤ at_ ∧ at_ ≤ 9223372036854775807) (hdat : data.size ≤ maxLen) :
    Calls Tryz.prog 6 #[.int .i64 at_, .string data] w fun e w' => e = .returned (.bool true) ∧ Below w.heap.size w w' := by
  have pk0 := pick0
  go_enter Tryz.func6, Tryz.ntmps6
  go_wp2_with fail
  refine (lives_any _).mono ?_
  rintro e wl ⟨rfl, hb0⟩
  have HB0 : Hid (Below w.heap.size w wl) := hb0
  clear hb0
  go_wp2_with fail
  refine (two_any _).mono ?_
  rintro e w0 ⟨b, b2, V, L, rfl, _, hf1, _, hb1, hlow1, _, hlv, hll⟩
  have HST : Hid (FSt w0 b V Vw.new L M0 0 2 newC ⟨#[]⟩) := hf1
  have HB1 : Hid (Below w.heap.size w w0) := HB0.out.trans (hb1.mono HB0.out.size)
  have HLO : Hid (w.heap.size ≤ b ∧ (∀ x ∈ V.all, w.heap.size ≤ x) ∧ ∀ x ∈ L.blocks, w.heap.size ≤ x) := ⟨Nat.le_trans HB0.out.size hlow1, fun x hx => Nat.le_trans HB0.out.size (hlv x hx), fun x hx => Nat.le_trans HB0.out.size (hll x hx)⟩
  clear hf1 hb1 hlow1 hlv hll
  obtain ⟨k, hk⟩ : ∃ k : Nat, min (data.size : Int) 400 = (k : Int) := ⟨(min (data.size : Int) 400).toNat, by omega⟩
  have hk4 : k ≤ 400 := by omega
  have hkd : k ≤ data.size := by omega
  obtain ⟨n, hn, hn1⟩ := place_some at_ k hk4
  have hdd : (data.extract 0 k).size = k := by rw [ByteArray.size_extract]; omega
  go_wp2_with fail
  rw [hn]
  obtain ⟨dd, hde⟩ : ∃ x, data.extract 0 k = x := ⟨_, rfl⟩
  rw [hde] at hdd
  rw [hde]
  have HDD : Hid (dd.size = k ∧ n + k ≤ 2688 ∧ k ≤ 400) := ⟨hdd, hn1, hk4⟩
  clear hn hn1 hk hk4 hkd hde hdd hdat hat pk0
  have HWR : Hid (∀ w1, Below w0.heap.size w0 w1 → Calls Tryz.prog 15 #[.pointer (some ⟨V.vb, 0, none⟩), .int .i64 2, .agg #[.int .i64 1, .int .i64 1, .int .i64 0, .int .u64 1, .int .i64 (-1), .int .i64 (-1), .int .i64 (-1), .int .i64 (-1), .int .i64 (-1), .int .i64 (-1)], .int .i64 n, .string dd] w1 fun e w' => DidT V L n dd w1 w' e) := fun w1 hb =>
    touch_any w1 V L n dd (HST.out.rest.on.later hb) (by have := HDD.out; omega) (by have := HDD.out; omega)
  obtain ⟨w2, hw2⟩ : ∃ x, w0 = x := ⟨_, rfl⟩
  have HB2 : Hid (Below w0.heap.size w0 w2) := by rw [← hw2]; exact Below.refl _ _
  have HF2 : Hid (FObjC w2 b V.vb L.mb 2 newC ⟨#[]⟩) := by rw [← hw2]; exact HST.out.obj
  rw [hw2]
  clear hw2
  obtain ⟨f0, f2, f3, f4, f5, f6, f7, f8, f9, f10, f11, f12⟩ := new_cells HF2.out
  have ne1 : w2.heap.size ≠ b := by have := HF2.out.lt; omega
  have ne3 : b ≠ w2.heap.size := fun e => ne1 e.symm
  go_wp2
  go_region_held3 (fun v' => v'.cell? ⟨b, 0, none⟩ = some (.pointer (some ⟨V.vb, 0, none⟩)) ∧ v'.cell? ⟨b, 2, none⟩ = some (.int .i64 2) ∧ v'.cell? ⟨b, 3, none⟩ = some (.int .i64 1) ∧ v'.cell? ⟨b, 4, none⟩ = some (.int .i64 1) ∧ v'.cell? ⟨b, 5, none⟩ = some (.int .i64 0) ∧ v'.cell? ⟨b, 6, none⟩ = some (.int .u64 1) ∧ v'.cell? ⟨b, 7, none⟩ = some (.int .i64 (-1)) ∧ v'.cell? ⟨b, 8, none⟩ = some (.int .i64 (-1)) ∧ v'.cell? ⟨b, 9, none⟩ = some (.int .i64 (-1)) ∧ v'.cell? ⟨b, 10, none⟩ = some (.int .i64 (-1)) ∧ v'.cell? ⟨b, 11, none⟩ = some (.int .i64 (-1)) ∧ v'.cell? ⟨b, 12, none⟩ = some (.int .i64 (-1))) (first | go_keep | fail "KEEP")
    (first
      | (go_at_call 15; refine Calls.mono (HWR.out _ (by first | exact HB2.out | exact HB2.out.drew | exact (HB2.out.alloc HB2.out.size _).drew | exact HB2.out.alloc HB2.out.size _)) ?_; rintro e w5 ⟨c2, S5, N5, rfl, hdid⟩; have HDID : Hid (∃ wq, Below w2.heap.size w2 wq ∧ TDid V L n dd c2 S5 N5 wq w5) := ⟨_, (by first | exact Below.refl _ _ | exact (Below.refl _ _).drew | exact (Below.refl _ _).alloc (Nat.le_refl _) _ | exact ((Below.refl _ _).alloc (Nat.le_refl _) _).drew), hdid⟩; (try (have hz : w5.heap[w2.heap.size]? = some (.cells #[.int .i64 0, .int .i64 0, .int .i64 0, .int .u64 0, .int .i64 0, .int .i64 0, .int .i64 0, .int .i64 0, .int .i64 0, .int .i64 0] 39 (0, 0)) := (hdid.only.block _ (by simp) (fun hm => by have := HST.out.rest.on.view.all_lt _ (blocks_sub hm); have := HB2.out.size; omega)).trans (heap_alloc_new w2 _); have HZ5 : CardAt w5 w2.heap.size 0 0 0 0 0 0 0 0 0 0 := hz; obtain ⟨z0, z1, z2, z3, z4, z5, z6, z7, z8, z9⟩ := HZ5.ten; have zf := fun i => frozen_of_row w5 _ i _ _ hz; clear HZ5)); clear hdid; have HF5 : Hid (FObjC w5 b V.vb L.mb 2 newC ⟨#[]⟩) := (by obtain ⟨wq, h1, h2⟩ := HDID.out; exact (HF2.out.later h1).only h2.only (fun hm => HST.out.bV (blocks_sub hm))); obtain ⟨f0, f2, f3, f4, f5, f6, f7, f8, f9, f10, f11, f12⟩ := new_cells HF5.out))
  all_goals clear f0 f2 f3 f4 f5 f6 f7 f8 f9 f10 f11 f12 ne1 ne3
  all_goals try clear z0 z1 z2 z3 z4 z5 z6 z7 z8 z9 zf
  all_goals
    first
      | (have hHO : Only V.blocks w0 (w5.alloc (.cells #[.int .i64 c2.k, .int .i64 c2.l, .int .i64 c2.s, .int .u64 c2.v, .int .i64 c2.d0, .int .i64 c2.d1, .int .i64 c2.d2, .int .i64 c2.d3, .int .i64 c2.d4, .int .i64 c2.m] 39)) := by
           obtain ⟨wq, h1, h2⟩ := HDID.out
           exact (Only.of_below HB2.out).trans ((Only.of_below h1).trans (h2.only.trans (Only.of_below ((Below.refl _ _).alloc (Nat.le_refl _) _))))
         have hON : On (w5.alloc (.cells #[.int .i64 c2.k, .int .i64 c2.l, .int .i64 c2.s, .int .u64 c2.v, .int .i64 c2.d0, .int .i64 c2.d1, .int .i64 c2.d2, .int .i64 c2.d3, .int .i64 c2.d4, .int .i64 c2.m] 39)) V S5 N5 L M0 := HDID.out.elim fun wq h => h.2.on.later ((Below.refl _ _).alloc (Nat.le_refl _) _)
         have hCX : CardAt (w5.alloc (.cells #[.int .i64 c2.k, .int .i64 c2.l, .int .i64 c2.s, .int .u64 c2.v, .int .i64 c2.d0, .int .i64 c2.d1, .int .i64 c2.d2, .int .i64 c2.d3, .int .i64 c2.d4, .int .i64 c2.m] 39)) w5.heap.size c2.k c2.l c2.s c2.v c2.d0 c2.d1 c2.d2 c2.d3 c2.d4 c2.m := heap_alloc_new _ _
         obtain ⟨bx, hbx⟩ : ∃ x, w5.heap.size = x := ⟨_, rfl⟩
         have hbn : w2.heap.size ≤ bx := (by obtain ⟨wq, h1, h2⟩ := HDID.out; have := h1.size; have := h2.only.size; omega)
         have HBXN : Hid (bx ∉ b :: V.vb :: L.blocks) := fun hm => by
           have g1 := HF2.out.lt
           have g2 := HST.out.rest.on.view.all_lt _ (vb_mem V)
           have g3 := HB2.out.size
           simp only [List.mem_cons] at hm
           rcases hm with hm | hm | hm
           · omega
           · omega
           · have := HST.out.rest.on.mem.all_lt _ hm; omega
         clear hbn
         obtain ⟨wX, hwX⟩ : ∃ x, (w5.alloc (.cells #[.int .i64 c2.k, .int .i64 c2.l, .int .i64 c2.s, .int .u64 c2.v, .int .i64 c2.d0, .int .i64 c2.d1, .int .i64 c2.d2, .int .i64 c2.d3, .int .i64 c2.d4, .int .i64 c2.m] 39)) = x := ⟨_, rfl⟩
         rw [hbx] at hCX
         rw [hwX] at hHO hON hCX
         rw [hwX, hbx]
         have HHO : Hid (Only V.blocks w0 wX) := hHO
         have HON : Hid (On wX V S5 N5 L M0) := hON
         have HCX : Hid (CardAt wX bx c2.k c2.l c2.s c2.v c2.d0 c2.d1 c2.d2 c2.d3 c2.d4 c2.m) := hCX
         clear hwX hbx hHO hON hCX)
      | (have hob : Only [w2.heap.size] w5 (((((((((((w5.setCell ⟨w2.heap.size, 0, none⟩ (.int .i64 c2.k)).setCell ⟨w2.heap.size, 1, none⟩ (.int .i64 c2.l)).setCell ⟨w2.heap.size, 2, none⟩ (.int .i64 c2.s)).setCell ⟨w2.heap.size, 3, none⟩ (.int .u64 c2.v)).setCell ⟨w2.heap.size, 4, none⟩ (.int .i64 c2.d0)).setCell ⟨w2.heap.size, 5, none⟩ (.int .i64 c2.d1)).setCell ⟨w2.heap.size, 6, none⟩ (.int .i64 c2.d2)).setCell ⟨w2.heap.size, 7, none⟩ (.int .i64 c2.d3)).setCell ⟨w2.heap.size, 8, none⟩ (.int .i64 c2.d4)).setCell ⟨w2.heap.size, 9, none⟩ (.int .i64 c2.m))) := (((((((((((Only.refl _ w5).setCell (p := ⟨w2.heap.size, 0, none⟩) (by simp) _).setCell (p := ⟨w2.heap.size, 1, none⟩) (by simp) _).setCell (p := ⟨w2.heap.size, 2, none⟩) (by simp) _).setCell (p := ⟨w2.heap.size, 3, none⟩) (by simp) _).setCell (p := ⟨w2.heap.size, 4, none⟩) (by simp) _).setCell (p := ⟨w2.heap.size, 5, none⟩) (by simp) _).setCell (p := ⟨w2.heap.size, 6, none⟩) (by simp) _).setCell (p := ⟨w2.heap.size, 7, none⟩) (by simp) _).setCell (p := ⟨w2.heap.size, 8, none⟩) (by simp) _).setCell (p := ⟨w2.heap.size, 9, none⟩) (by simp) _)
         have hHO : Only V.blocks w0 (((((((((((w5.setCell ⟨w2.heap.size, 0, none⟩ (.int .i64 c2.k)).setCell ⟨w2.heap.size, 1, none⟩ (.int .i64 c2.l)).setCell ⟨w2.heap.size, 2, none⟩ (.int .i64 c2.s)).setCell ⟨w2.heap.size, 3, none⟩ (.int .u64 c2.v)).setCell ⟨w2.heap.size, 4, none⟩ (.int .i64 c2.d0)).setCell ⟨w2.heap.size, 5, none⟩ (.int .i64 c2.d1)).setCell ⟨w2.heap.size, 6, none⟩ (.int .i64 c2.d2)).setCell ⟨w2.heap.size, 7, none⟩ (.int .i64 c2.d3)).setCell ⟨w2.heap.size, 8, none⟩ (.int .i64 c2.d4)).setCell ⟨w2.heap.size, 9, none⟩ (.int .i64 c2.m))) := by
           obtain ⟨wq, h1, h2⟩ := HDID.out
           have hsz := HB2.out.size
           exact Only.fresh ((Only.of_below HB2.out).trans ((Only.of_below h1).trans h2.only)) hob (fun j hj => by simp at hj; omega)
         have hON : On (((((((((((w5.setCell ⟨w2.heap.size, 0, none⟩ (.int .i64 c2.k)).setCell ⟨w2.heap.size, 1, none⟩ (.int .i64 c2.l)).setCell ⟨w2.heap.size, 2, none⟩ (.int .i64 c2.s)).setCell ⟨w2.heap.size, 3, none⟩ (.int .u64 c2.v)).setCell ⟨w2.heap.size, 4, none⟩ (.int .i64 c2.d0)).setCell ⟨w2.heap.size, 5, none⟩ (.int .i64 c2.d1)).setCell ⟨w2.heap.size, 6, none⟩ (.int .i64 c2.d2)).setCell ⟨w2.heap.size, 7, none⟩ (.int .i64 c2.d3)).setCell ⟨w2.heap.size, 8, none⟩ (.int .i64 c2.d4)).setCell ⟨w2.heap.size, 9, none⟩ (.int .i64 c2.m))) V S5 N5 L M0 := HDID.out.elim fun wq h => h.2.on.fresh (B := w2.heap.size) hob (fun j hj => by simp at hj; omega) (fun j hj => by have := HST.out.rest.on.view.all_lt j hj; have := HB2.out.size; omega) (fun j hj => by have := HST.out.rest.on.mem.all_lt j hj; have := HB2.out.size; omega)
         have hCX : CardAt (((((((((((w5.setCell ⟨w2.heap.size, 0, none⟩ (.int .i64 c2.k)).setCell ⟨w2.heap.size, 1, none⟩ (.int .i64 c2.l)).setCell ⟨w2.heap.size, 2, none⟩ (.int .i64 c2.s)).setCell ⟨w2.heap.size, 3, none⟩ (.int .u64 c2.v)).setCell ⟨w2.heap.size, 4, none⟩ (.int .i64 c2.d0)).setCell ⟨w2.heap.size, 5, none⟩ (.int .i64 c2.d1)).setCell ⟨w2.heap.size, 6, none⟩ (.int .i64 c2.d2)).setCell ⟨w2.heap.size, 7, none⟩ (.int .i64 c2.d3)).setCell ⟨w2.heap.size, 8, none⟩ (.int .i64 c2.d4)).setCell ⟨w2.heap.size, 9, none⟩ (.int .i64 c2.m))) w2.heap.size c2.k c2.l c2.s c2.v c2.d0 c2.d1 c2.d2 c2.d3 c2.d4 c2.m := (ct9 (ct8 (ct7 (ct6 (ct5 (ct4 (ct3 (ct2 (ct1 (ct0 hz (.int .i64 c2.k)) (.int .i64 c2.l)) (.int .i64 c2.s)) (.int .u64 c2.v)) (.int .i64 c2.d0)) (.int .i64 c2.d1)) (.int .i64 c2.d2)) (.int .i64 c2.d3)) (.int .i64 c2.d4)) (.int .i64 c2.m))
         obtain ⟨bx, hbx⟩ : ∃ x, w2.heap.size = x := ⟨_, rfl⟩
         have hbn : w2.heap.size ≤ bx := (by obtain ⟨wq, h1, h2⟩ := HDID.out; have := h1.size; have := h2.only.size; omega)
         have HBXN : Hid (bx ∉ b :: V.vb :: L.blocks) := fun hm => by
           have g1 := HF2.out.lt
           have g2 := HST.out.rest.on.view.all_lt _ (vb_mem V)
           have g3 := HB2.out.size
           simp only [List.mem_cons] at hm
           rcases hm with hm | hm | hm
           · omega
           · omega
           · have := HST.out.rest.on.mem.all_lt _ hm; omega
         clear hbn
         obtain ⟨wX, hwX⟩ : ∃ x, (((((((((((w5.setCell ⟨w2.heap.size, 0, none⟩ (.int .i64 c2.k)).setCell ⟨w2.heap.size, 1, none⟩ (.int .i64 c2.l)).setCell ⟨w2.heap.size, 2, none⟩ (.int .i64 c2.s)).setCell ⟨w2.heap.size, 3, none⟩ (.int .u64 c2.v)).setCell ⟨w2.heap.size, 4, none⟩ (.int .i64 c2.d0)).setCell ⟨w2.heap.size, 5, none⟩ (.int .i64 c2.d1)).setCell ⟨w2.heap.size, 6, none⟩ (.int .i64 c2.d2)).setCell ⟨w2.heap.size, 7, none⟩ (.int .i64 c2.d3)).setCell ⟨w2.heap.size, 8, none⟩ (.int .i64 c2.d4)).setCell ⟨w2.heap.size, 9, none⟩ (.int .i64 c2.m))) = x := ⟨_, rfl⟩
         rw [hwX] at hHO hON hCX
         rw [hwX, hbx]
         rw [hbx] at hCX
         have HHO : Hid (Only V.blocks w0 wX) := hHO
         have HON : Hid (On wX V S5 N5 L M0) := hON
         have HCX : Hid (CardAt wX bx c2.k c2.l c2.s c2.v c2.d0 c2.d1 c2.d2 c2.d3 c2.d4 c2.m) := hCX
         clear hwX hbx hHO hON hCX hob)
  all_goals
    obtain ⟨wq, hq1, hq2⟩ := HDID.out
    have HTX : Hid (TouchX (S5.word M0) c2 n dd) := hq2.tx
    have HQQ : Hid (N5 ≤ 1000 ∧ S5.away = Vw.new.away) := ⟨hq2.small, hq2.away⟩
    clear hq1 hq2 HDID HF5
    have HBX : Hid (Below w.heap.size w wX) := HB1.out.trans (HHO.out.below HB1.out.size fun x hx => HLO.out.2.1 x (blocks_sub hx))
    have HFX : Hid (FObjC wX b V.vb L.mb 2 newC ⟨#[]⟩) := HST.out.obj.only HHO.out (fun hm => HST.out.bV (blocks_sub hm))
    obtain ⟨tt, htt⟩ : ∃ x, Wd.mkB (fun _ => 0) n ++ dd = x := ⟨_, rfl⟩
    have HTT : Hid (Wd.mkB (fun _ => 0) n ++ dd = tt) := htt
    have HEND : Hid (∀ u, Below wX.heap.size wX u → Calls Tryz.prog 16 #[.pointer (some ⟨b, 0, none⟩), .agg #[.int .i64 c2.k, .int .i64 c2.l, .int .i64 c2.s, .int .u64 c2.v, .int .i64 c2.d0, .int .i64 c2.d1, .int .i64 c2.d2, .int .i64 c2.d3, .int .i64 c2.d4, .int .i64 c2.m], .string tt, .int .i64 0, .int .i64 0] u fun e w' => TouchTo w u b V.vb L c2 n dd tt w' e) := fun u hb =>
      touch_end w u b V L S5 N5 c2 n dd tt (HON.out.later hb) HQQ.out.1 HQQ.out.2 (HFX.out.later hb) HTX.out HST.out.bV HST.out.bL (HBX.out.trans (hb.mono HBX.out.size)) HLO.out.1 HLO.out.2.1 HLO.out.2.2
    have hmk := made_run n (by have := HDD.out; omega)
    have hcv := zero_text n (by have := HDD.out; omega)
    have hzs : (Wd.mkB (fun _ => 0) n).size + dd.size ≤ 9223372036854775807 := by rw [Wd.mkB_size]; have := HDD.out; omega
    obtain ⟨zz, hzz⟩ : ∃ z, Wd.mkB (fun _ => 0) n = z := ⟨_, rfl⟩
    have HZZ : Hid (Wd.mkB (fun _ => 0) n = zz) := hzz
    rw [hzz] at hcv hzs htt
    have hzn : ¬ 9223372036854775807 < zz.size + dd.size := by omega
    have HBU : Hid (Below wX.heap.size wX wX) := Below.refl _ _
    have HCL : Hid (∀ u, Below wX.heap.size wX u → CardAt u bx c2.k c2.l c2.s c2.v c2.d0 c2.d1 c2.d2 c2.d3 c2.d4 c2.m) := fun u hb => HCX.out.later hb
    obtain ⟨z0, z1, z2, z3, z4, z5, z6, z7, z8, z9⟩ := HCX.out.ten
    clear hzz
    go_wp2
  · refine wp_region_held_drew (S := fun v' => v'.cell? ⟨bx, 0, none⟩ = some (.int .i64 c2.k) ∧ v'.cell? ⟨bx, 1, none⟩ = some (.int .i64 c2.l) ∧ v'.cell? ⟨bx, 2, none⟩ = some (.int .i64 c2.s) ∧ v'.cell? ⟨bx, 3, none⟩ = some (.int .u64 c2.v) ∧ v'.cell? ⟨bx, 4, none⟩ = some (.int .i64 c2.d0) ∧ v'.cell? ⟨bx, 5, none⟩ = some (.int .i64 c2.d1) ∧ v'.cell? ⟨bx, 6, none⟩ = some (.int .i64 c2.d2) ∧ v'.cell? ⟨bx, 7, none⟩ = some (.int .i64 c2.d3) ∧ v'.cell? ⟨bx, 8, none⟩ = some (.int .i64 c2.d4) ∧ v'.cell? ⟨bx, 9, none⟩ = some (.int .i64 c2.m)) (by kernel_rfl) ?_ (fun hHeld => ?_)
    · first | go_keep | exact ⟨z0, z1, z2, z3, z4, z5, z6, z7, z8, z9⟩
    refine wpAnyH_take (i := 0) (oi := ?oi_a0) (v := ?v_a0) ?hi_a0 ?hs_a0 ?hf_a0 ?hr_a0 ?hQ_a0 ?hy_a0 ?hS_a0 ?rest_a0
    case hi_a0 => simp only [List.getElem?_toArray, List.getElem?_cons_succ, List.getElem?_cons_zero] <;> rfl
    case hs_a0 => kernel_rfl
    case hf_a0 => kernel_rfl
    case hr_a0 => kernel_rfl
    case hQ_a0 => exact fun _ _ _ h => h
    case hS_a0 => assumption
    case hy_a0 =>
      refine Or.inl ⟨by rfl, ?_⟩
      intro w hSw
      (try dsimp only at hSw)
      go_simp
      try with_reducible rfl
    try simp only [Act.put, List.setIfInBounds_toArray, List.set_cons_zero, List.set_cons_succ]
    refine wpAnyH_take (i := 1) (oi := ?oi_a1) (v := ?v_a1) ?hi_a1 ?hs_a1 ?hf_a1 ?hr_a1 ?hQ_a1 ?hy_a1 ?hS_a1 ?rest_a1
    case hi_a1 => simp only [List.getElem?_toArray, List.getElem?_cons_succ, List.getElem?_cons_zero] <;> rfl
    case hs_a1 => kernel_rfl
    case hf_a1 => kernel_rfl
    case hr_a1 => kernel_rfl
    case hQ_a1 => exact fun _ _ _ h => h
    case hS_a1 => assumption
    case hy_a1 =>
      refine Or.inl ⟨by rfl, ?_⟩
      intro w hSw
      (try dsimp only at hSw)
      go_simp
      try with_reducible rfl
    try simp only [Act.put, List.setIfInBounds_toArray, List.set_cons_zero, List.set_cons_succ]
    refine wpAnyH_take (i := 2) (oi := ?oi_a2) (v := ?v_a2) ?hi_a2 ?hs_a2 ?hf_a2 ?hr_a2 ?hQ_a2 ?hy_a2 ?hS_a2 ?rest_a2
    case hi_a2 => simp only [List.getElem?_toArray, List.getElem?_cons_succ, List.getElem?_cons_zero] <;> rfl
    case hs_a2 => kernel_rfl
    case hf_a2 => kernel_rfl
    case hr_a2 => kernel_rfl
    case hQ_a2 => exact fun _ _ _ h => h
    case hS_a2 => assumption
    case hy_a2 =>
      refine Or.inl ⟨by rfl, ?_⟩
      intro w hSw
      (try dsimp only at hSw)
      go_simp
      try with_reducible rfl
    try simp only [Act.put, List.setIfInBounds_toArray, List.set_cons_zero, List.set_cons_succ]
    refine wpAnyH_take (i := 3) (oi := ?oi_a3) (v := ?v_a3) ?hi_a3 ?hs_a3 ?hf_a3 ?hr_a3 ?hQ_a3 ?hy_a3 ?hS_a3 ?rest_a3
    case hi_a3 => simp only [List.getElem?_toArray, List.getElem?_cons_succ, List.getElem?_cons_zero] <;> rfl
    case hs_a3 => kernel_rfl
    case hf_a3 => kernel_rfl
    case hr_a3 => kernel_rfl
    case hQ_a3 => exact fun _ _ _ h => h
    case hS_a3 => assumption
    case hy_a3 =>
      refine Or.inl ⟨by rfl, ?_⟩
      intro w hSw
      (try dsimp only at hSw)
      go_simp
      try with_reducible rfl
    try simp only [Act.put, List.setIfInBounds_toArray, List.set_cons_zero, List.set_cons_succ]
    refine wpAnyH_take (i := 4) (oi := ?oi_a4) (v := ?v_a4) ?hi_a4 ?hs_a4 ?hf_a4 ?hr_a4 ?hQ_a4 ?hy_a4 ?hS_a4 ?rest_a4
    case hi_a4 => simp only [List.getElem?_toArray, List.getElem?_cons_succ, List.getElem?_cons_zero] <;> rfl
    case hs_a4 => kernel_rfl
    case hf_a4 => kernel_rfl
    case hr_a4 => kernel_rfl
    case hQ_a4 => exact fun _ _ _ h => h
    case hS_a4 => assumption
    case hy_a4 =>
      refine Or.inl ⟨by rfl, ?_⟩
      intro w hSw
      (try dsimp only at hSw)
      go_simp
      try with_reducible rfl
    try simp only [Act.put, List.setIfInBounds_toArray, List.set_cons_zero, List.set_cons_succ]
    refine wpAnyH_take (i := 5) (oi := ?oi_a5) (v := ?v_a5) ?hi_a5 ?hs_a5 ?hf_a5 ?hr_a5 ?hQ_a5 ?hy_a5 ?hS_a5 ?rest_a5
    case hi_a5 => simp only [List.getElem?_toArray, List.getElem?_cons_succ, List.getElem?_cons_zero] <;> rfl
    case hs_a5 => kernel_rfl
    case hf_a5 => kernel_rfl
    case hr_a5 => kernel_rfl
    case hQ_a5 => exact fun _ _ _ h => h
    case hS_a5 => assumption
    case hy_a5 =>
      refine Or.inl ⟨by rfl, ?_⟩
      intro w hSw
      (try dsimp only at hSw)
      go_simp
      try with_reducible rfl
    try simp only [Act.put, List.setIfInBounds_toArray, List.set_cons_zero, List.set_cons_succ]
    refine wpAnyH_take (i := 8) (oi := ?oi_a8) (v := ?v_a8) ?hi_a8 ?hs_a8 ?hf_a8 ?hr_a8 ?hQ_a8 ?hy_a8 ?hS_a8 ?rest_a8
    case hi_a8 => simp only [List.getElem?_toArray, List.getElem?_cons_succ, List.getElem?_cons_zero] <;> rfl
    case hs_a8 => kernel_rfl
    case hf_a8 => kernel_rfl
    case hr_a8 => kernel_rfl
    case hQ_a8 => exact fun _ _ _ h => h
    case hS_a8 => assumption
    case hy_a8 =>
      refine Or.inl ⟨by rfl, ?_⟩
      intro w hSw
      (try dsimp only at hSw)
      go_simp
      try with_reducible rfl
    try simp only [Act.put, List.setIfInBounds_toArray, List.set_cons_zero, List.set_cons_succ]
    refine wpAnyH_take (i := 10) (oi := ?oi_a10) (v := ?v_a10) ?hi_a10 ?hs_a10 ?hf_a10 ?hr_a10 ?hQ_a10 ?hy_a10 ?hS_a10 ?rest_a10
    case hi_a10 => simp only [List.getElem?_toArray, List.getElem?_cons_succ, List.getElem?_cons_zero] <;> rfl
    case hs_a10 => kernel_rfl
    case hf_a10 => kernel_rfl
    case hr_a10 => kernel_rfl
    case hQ_a10 => exact fun _ _ _ h => h
    case hS_a10 => assumption
    case hy_a10 =>
      refine Or.inl ⟨by rfl, ?_⟩
      intro w hSw
      (try dsimp only at hSw)
      go_simp
      try with_reducible rfl
    try simp only [Act.put, List.setIfInBounds_toArray, List.set_cons_zero, List.set_cons_succ]
    refine wpAnyH_ready (rs := [6]) (by kernel_rfl) (by simp) ?_
    refine AllReadyH.cons rfl (fun KK hKK => ?_) AllReadyH.nil
    go_simp
    refine hKK.out _ _ ?_ (fun hHeld => ?_)
    · first | go_keep | exact ⟨z0, z1, z2, z3, z4, z5, z6, z7, z8, z9⟩
    clear hKK KK
    refine wpAnyH_ready (rs := [7]) (by kernel_rfl) (by simp) ?_
    refine AllReadyH.cons rfl (fun KK hKK => ?_) AllReadyH.nil
    go_simp
    refine hKK.out _ _ ?_ (fun hHeld => ?_)
    · first | go_keep | exact ⟨z0, z1, z2, z3, z4, z5, z6, z7, z8, z9⟩
    clear hKK KK
    refine wpAnyH_ready (rs := [9]) (by kernel_rfl) (by simp) ?_
    refine AllReadyH.cons rfl (fun KK hKK => ?_) AllReadyH.nil
    go_simp
    refine hKK.out _ _ ?_ (fun hHeld => ?_)
    · first | go_keep | exact ⟨z0, z1, z2, z3, z4, z5, z6, z7, z8, z9⟩
    clear hKK KK
    refine wpAnyH_ready (rs := [11]) (by kernel_rfl) (by simp) ?_
    refine AllReadyH.cons rfl (fun KK hKK => ?_) AllReadyH.nil
    go_simp
    go_wp2_with (first | (go_at_call 16; refine Calls.mono (HEND.out _ (by first | exact HBU.out | exact HBU.out.drew | exact ((Below.refl _ _).alloc (Nat.le_refl _) _).drew | (refine Below.alloc ?_ ?_ _ <;> first | exact (Below.refl _ _).drew | exact Nat.le_refl _))) ?_; rintro e w8 ⟨rfl, ho8, V8, S8, M8, hos, hbv8, htx8, hb8⟩; obtain ⟨z0, z1, z2, z3, z4, z5, z6, z7, z8, z9⟩ := ((HCL.out _ (by first | exact HBU.out | exact HBU.out.drew | exact ((Below.refl _ _).alloc (Nat.le_refl _) _).drew)).only ho8 HBXN.out).ten; have HOS : Hid (OSt w8 b V8 S8 L M8 2824 2 c2 tt ∧ b ∉ V8.all ∧ TouchX M8.read c2 n dd) := ⟨hos, hbv8, htx8⟩; have HB8 : Hid (Below w.heap.size w w8) := hb8; clear hos hbv8 htx8 hb8))
    refine hKK.out _ _ ?_ (fun hHeld => ?_)
    · first | go_keep | exact ⟨z0, z1, z2, z3, z4, z5, z6, z7, z8, z9⟩
    clear hKK KK
    refine wpAnyH_take (i := 12) (oi := ?oi_a12) (v := ?v_a12) ?hi_a12 ?hs_a12 ?hf_a12 ?hr_a12 ?hQ_a12 ?hy_a12 ?hS_a12 ?rest_a12
    case hi_a12 => simp only [List.getElem?_toArray, List.getElem?_cons_succ, List.getElem?_cons_zero] <;> rfl
    case hs_a12 => kernel_rfl
    case hf_a12 => kernel_rfl
    case hr_a12 => kernel_rfl
    case hQ_a12 => exact fun _ _ _ h => h
    case hS_a12 => assumption
    case hy_a12 =>
      refine Or.inl ⟨by rfl, ?_⟩
      intro w hSw
      (try dsimp only at hSw)
      go_simp
      try with_reducible rfl
    try simp only [Act.put, List.setIfInBounds_toArray, List.set_cons_zero, List.set_cons_succ]
    refine wpAnyH_take (i := 13) (oi := ?oi_a13) (v := ?v_a13) ?hi_a13 ?hs_a13 ?hf_a13 ?hr_a13 ?hQ_a13 ?hy_a13 ?hS_a13 ?rest_a13
    case hi_a13 => simp only [List.getElem?_toArray, List.getElem?_cons_succ, List.getElem?_cons_zero] <;> rfl
    case hs_a13 => kernel_rfl
    case hf_a13 => kernel_rfl
    case hr_a13 => kernel_rfl
    case hQ_a13 => exact fun _ _ _ h => h
    case hS_a13 => assumption
    case hy_a13 =>
      refine Or.inl ⟨by rfl, ?_⟩
      intro w hSw
      (try dsimp only at hSw)
      go_simp
      try with_reducible rfl
    try simp only [Act.put, List.setIfInBounds_toArray, List.set_cons_zero, List.set_cons_succ]
    refine wpAnyH_done (by kernel_rfl) ?_ _
    clear z0 z1 z2 z3 z4 z5 z6 z7 z8 z9 hmk hcv hzs hzn htt hHeld HWR HB2 HF2 HON HCX HHO HEND HCL HFX HBU HBX HBXN
    have hpos := HDD.out
    by_cases hd : dd.size = 0
    · obtain ⟨ho0, hs0⟩ := touch_none HOS.out.2.2 hd
      have hdl : dd.toList = [] := by rw [ByteArray.toList_eq]; exact List.length_eq_zero_iff.1 (by rw [Array.length_toList]; exact hd)
      have HOW : Hid (Calls Tryz.prog 12 #[.pointer (some ⟨b, 0, none⟩)] w8 fun e w' => e = .returned (.int .i64 0) ∧ Below w8.heap.size w8 w') := by
        have := own_file b V8 S8 L M8 2824 2 c2 tt w8 HOS.out.1 (by omega) (by omega)
        rw [ho0] at this
        exact this
      have HF8 : Hid (FObjC w8 b V8.vb L.mb 2 c2 tt) := HOS.out.1.obj
      have hie : dd.toList.isEmpty = true := by rw [hdl]; rfl
      clear ho0 hd hpos
      go_wp2_with fail
      refine Calls.mono (Hid.out HOW) ?_
      rintro e w9 ⟨rfl, hb9⟩
      have HB9 : Hid (Below w.heap.size w w9) := HB8.out.trans (hb9.mono HB8.out.size)
      have f5 : w9.cell? ⟨b, 5, none⟩ = some (.int .i64 c2.s) := (HF8.out.later hb9).c5
      rw [hs0] at f5
      clear hb9
      go_wp2
      go_ret
      exact ⟨rfl, HB9.out⟩
    · have hd0 : 0 < dd.size := by omega
      have hdl : ¬ dd.toList = [] := not_nil hd0
      have hie : dd.toList.isEmpty = false := by simpa using hdl
      have hto := touch_own HOS.out.2.2 hd0 (by omega)
      have hdk : dd.size = k := hpos.1
      rw [hdk] at hto
      have HFS : Hid (FSt w8 b V8 S8 L M8 2824 2 c2 tt) := ⟨HOS.out.1.rest, HOS.out.1.obj, HOS.out.2.1, HST.out.bL, by rw [← HTT.out]; exact touch_ok HOS.out.2.2 hd0 (by omega)⟩
      have HWL : Hid (∀ u, Below w8.heap.size w8 u → Calls Tryz.prog 11 #[.pointer (some ⟨b, 0, none⟩)] u fun e w' => e = .returned (.bool true) ∧ Below u.heap.size u w') := fun u hb => whole_any b V8 S8 L M8 2824 2 c2 tt u (HFS.out.later hb)
      obtain ⟨cnt, hcnt⟩ : ∃ x, (ownL (mapF M8.read c2.d0 c2.d1 c2.d2 c2.d3 c2.d4 c2.m) c2.m).length = x := ⟨_, rfl⟩
      have HOW : Hid (Calls Tryz.prog 12 #[.pointer (some ⟨b, 0, none⟩)] w8 fun e w' => e = .returned (.int .i64 (cnt : Nat)) ∧ Below w8.heap.size w8 w') := by
        have := own_any b V8 S8 L M8 2824 2 c2 tt w8 HFS.out (by omega) (by omega)
        rw [hcnt] at this
        exact this
      rw [hcnt] at hto
      clear hcnt
      by_cases hl : 5 ≤ (n + k - 1) / 128
      · rw [if_pos hl] at hto
        have hl' : (5 : Int) ≤ ((n : Int) + (k : Int) - 1) / 128 := by omega
        have heq : (cnt : Int) = ((n : Int) + (k : Int) - 1) / 128 - (n : Int) / 128 + 1 + 1 := by omega
        clear hto hl
        go_wp2_with fail
        refine Calls.mono (Hid.out HOW) ?_
        rintro e w9 ⟨rfl, hb9⟩
        have HB9 : Hid (Below w8.heap.size w8 w9) := hb9
        clear hb9
        go_wp2_with (first
          | (go_at_call 11; refine Calls.mono (HWL.out _ HB9.out) ?_; rintro e w10 ⟨rfl, hb10⟩; have HBA : Hid (Below w.heap.size w w10) := HB8.out.trans ((HB9.out.mono HB8.out.size).trans (hb10.mono (by have := HB8.out.size; have := HB9.out.size; omega))); clear hb10)
          | go_in)
        go_ret
        exact ⟨by first | rfl | simp, HBA.out⟩
      · rw [if_neg hl] at hto
        have hl' : ¬ (5 : Int) ≤ ((n : Int) + (k : Int) - 1) / 128 := by omega
        have heq : (cnt : Int) = ((n : Int) + (k : Int) - 1) / 128 - (n : Int) / 128 + 1 := by omega
        clear hto hl
        go_wp2_with fail
        refine Calls.mono (Hid.out HOW) ?_
        rintro e w9 ⟨rfl, hb9⟩
        have HB9 : Hid (Below w8.heap.size w8 w9) := hb9
        clear hb9
        go_wp2_with (first
          | (go_at_call 11; refine Calls.mono (HWL.out _ HB9.out) ?_; rintro e w10 ⟨rfl, hb10⟩; have HBA : Hid (Below w.heap.size w w10) := HB8.out.trans ((HB9.out.mono HB8.out.size).trans (hb10.mono (by have := HB8.out.size; have := HB9.out.size; omega))); clear hb10)
          | go_in)
        go_ret
        exact ⟨by first | rfl | simp, HBA.out⟩
  · refine wp_region_held_drew (S := fun v' => v'.cell? ⟨bx, 0, none⟩ = some (.int .i64 c2.k) ∧ v'.cell? ⟨bx, 1, none⟩ = some (.int .i64 c2.l) ∧ v'.cell? ⟨bx, 2, none⟩ = some (.int .i64 c2.s) ∧ v'.cell? ⟨bx, 3, none⟩ = some (.int .u64 c2.v) ∧ v'.cell? ⟨bx, 4, none⟩ = some (.int .i64 c2.d0) ∧ v'.cell? ⟨bx, 5, none⟩ = some (.int .i64 c2.d1) ∧ v'.cell? ⟨bx, 6, none⟩ = some (.int .i64 c2.d2) ∧ v'.cell? ⟨bx, 7, none⟩ = some (.int .i64 c2.d3) ∧ v'.cell? ⟨bx, 8, none⟩ = some (.int .i64 c2.d4) ∧ v'.cell? ⟨bx, 9, none⟩ = some (.int .i64 c2.m)) (by kernel_rfl) ?_ (fun hHeld => ?_)
    · first | go_keep | exact ⟨z0, z1, z2, z3, z4, z5, z6, z7, z8, z9⟩
    refine wpAnyH_take (i := 0) (oi := ?oi_b0) (v := ?v_b0) ?hi_b0 ?hs_b0 ?hf_b0 ?hr_b0 ?hQ_b0 ?hy_b0 ?hS_b0 ?rest_b0
    case hi_b0 => simp only [List.getElem?_toArray, List.getElem?_cons_succ, List.getElem?_cons_zero] <;> rfl
    case hs_b0 => kernel_rfl
    case hf_b0 => kernel_rfl
    case hr_b0 => kernel_rfl
    case hQ_b0 => exact fun _ _ _ h => h
    case hS_b0 => assumption
    case hy_b0 =>
      refine Or.inl ⟨by rfl, ?_⟩
      intro w hSw
      (try dsimp only at hSw)
      go_simp
      try with_reducible rfl
    try simp only [Act.put, List.setIfInBounds_toArray, List.set_cons_zero, List.set_cons_succ]
    refine wpAnyH_take (i := 1) (oi := ?oi_b1) (v := ?v_b1) ?hi_b1 ?hs_b1 ?hf_b1 ?hr_b1 ?hQ_b1 ?hy_b1 ?hS_b1 ?rest_b1
    case hi_b1 => simp only [List.getElem?_toArray, List.getElem?_cons_succ, List.getElem?_cons_zero] <;> rfl
    case hs_b1 => kernel_rfl
    case hf_b1 => kernel_rfl
    case hr_b1 => kernel_rfl
    case hQ_b1 => exact fun _ _ _ h => h
    case hS_b1 => assumption
    case hy_b1 =>
      refine Or.inl ⟨by rfl, ?_⟩
      intro w hSw
      (try dsimp only at hSw)
      go_simp
      try with_reducible rfl
    try simp only [Act.put, List.setIfInBounds_toArray, List.set_cons_zero, List.set_cons_succ]
    refine wpAnyH_take (i := 2) (oi := ?oi_b2) (v := ?v_b2) ?hi_b2 ?hs_b2 ?hf_b2 ?hr_b2 ?hQ_b2 ?hy_b2 ?hS_b2 ?rest_b2
    case hi_b2 => simp only [List.getElem?_toArray, List.getElem?_cons_succ, List.getElem?_cons_zero] <;> rfl
    case hs_b2 => kernel_rfl
    case hf_b2 => kernel_rfl
    case hr_b2 => kernel_rfl
    case hQ_b2 => exact fun _ _ _ h => h
    case hS_b2 => assumption
    case hy_b2 =>
      refine Or.inl ⟨by rfl, ?_⟩
      intro w hSw
      (try dsimp only at hSw)
      go_simp
      try with_reducible rfl
    try simp only [Act.put, List.setIfInBounds_toArray, List.set_cons_zero, List.set_cons_succ]
    refine wpAnyH_take (i := 3) (oi := ?oi_b3) (v := ?v_b3) ?hi_b3 ?hs_b3 ?hf_b3 ?hr_b3 ?hQ_b3 ?hy_b3 ?hS_b3 ?rest_b3
    case hi_b3 => simp only [List.getElem?_toArray, List.getElem?_cons_succ, List.getElem?_cons_zero] <;> rfl
    case hs_b3 => kernel_rfl
    case hf_b3 => kernel_rfl
    case hr_b3 => kernel_rfl
    case hQ_b3 => exact fun _ _ _ h => h
    case hS_b3 => assumption
    case hy_b3 =>
      refine Or.inl ⟨by rfl, ?_⟩
      intro w hSw
      (try dsimp only at hSw)
      go_simp
      try with_reducible rfl
    try simp only [Act.put, List.setIfInBounds_toArray, List.set_cons_zero, List.set_cons_succ]
    refine wpAnyH_take (i := 4) (oi := ?oi_b4) (v := ?v_b4) ?hi_b4 ?hs_b4 ?hf_b4 ?hr_b4 ?hQ_b4 ?hy_b4 ?hS_b4 ?rest_b4
    case hi_b4 => simp only [List.getElem?_toArray, List.getElem?_cons_succ, List.getElem?_cons_zero] <;> rfl
    case hs_b4 => kernel_rfl
    case hf_b4 => kernel_rfl
    case hr_b4 => kernel_rfl
    case hQ_b4 => exact fun _ _ _ h => h
    case hS_b4 => assumption
    case hy_b4 =>
      refine Or.inl ⟨by rfl, ?_⟩
      intro w hSw
      (try dsimp only at hSw)
      go_simp
      try with_reducible rfl
    try simp only [Act.put, List.setIfInBounds_toArray, List.set_cons_zero, List.set_cons_succ]
    refine wpAnyH_take (i := 5) (oi := ?oi_b5) (v := ?v_b5) ?hi_b5 ?hs_b5 ?hf_b5 ?hr_b5 ?hQ_b5 ?hy_b5 ?hS_b5 ?rest_b5
    case hi_b5 => simp only [List.getElem?_toArray, List.getElem?_cons_succ, List.getElem?_cons_zero] <;> rfl
    case hs_b5 => kernel_rfl
    case hf_b5 => kernel_rfl
    case hr_b5 => kernel_rfl
    case hQ_b5 => exact fun _ _ _ h => h
    case hS_b5 => assumption
    case hy_b5 =>
      refine Or.inl ⟨by rfl, ?_⟩
      intro w hSw
      (try dsimp only at hSw)
      go_simp
      try with_reducible rfl
    try simp only [Act.put, List.setIfInBounds_toArray, List.set_cons_zero, List.set_cons_succ]
    refine wpAnyH_take (i := 8) (oi := ?oi_b8) (v := ?v_b8) ?hi_b8 ?hs_b8 ?hf_b8 ?hr_b8 ?hQ_b8 ?hy_b8 ?hS_b8 ?rest_b8
    case hi_b8 => simp only [List.getElem?_toArray, List.getElem?_cons_succ, List.getElem?_cons_zero] <;> rfl
    case hs_b8 => kernel_rfl
    case hf_b8 => kernel_rfl
    case hr_b8 => kernel_rfl
    case hQ_b8 => exact fun _ _ _ h => h
    case hS_b8 => assumption
    case hy_b8 =>
      refine Or.inl ⟨by rfl, ?_⟩
      intro w hSw
      (try dsimp only at hSw)
      go_simp
      try with_reducible rfl
    try simp only [Act.put, List.setIfInBounds_toArray, List.set_cons_zero, List.set_cons_succ]
    refine wpAnyH_take (i := 10) (oi := ?oi_b10) (v := ?v_b10) ?hi_b10 ?hs_b10 ?hf_b10 ?hr_b10 ?hQ_b10 ?hy_b10 ?hS_b10 ?rest_b10
    case hi_b10 => simp only [List.getElem?_toArray, List.getElem?_cons_succ, List.getElem?_cons_zero] <;> rfl
    case hs_b10 => kernel_rfl
    case hf_b10 => kernel_rfl
    case hr_b10 => kernel_rfl
    case hQ_b10 => exact fun _ _ _ h => h
    case hS_b10 => assumption
    case hy_b10 =>
      refine Or.inl ⟨by rfl, ?_⟩
      intro w hSw
      (try dsimp only at hSw)
      go_simp
      try with_reducible rfl
    try simp only [Act.put, List.setIfInBounds_toArray, List.set_cons_zero, List.set_cons_succ]
    refine wpAnyH_ready (rs := [6]) (by kernel_rfl) (by simp) ?_
    refine AllReadyH.cons rfl (fun KK hKK => ?_) AllReadyH.nil
    go_simp
    refine hKK.out _ _ ?_ (fun hHeld => ?_)
    · first | go_keep | exact ⟨z0, z1, z2, z3, z4, z5, z6, z7, z8, z9⟩
    clear hKK KK
    refine wpAnyH_ready (rs := [7]) (by kernel_rfl) (by simp) ?_
    refine AllReadyH.cons rfl (fun KK hKK => ?_) AllReadyH.nil
    go_simp
    refine hKK.out _ _ ?_ (fun hHeld => ?_)
    · first | go_keep | exact ⟨z0, z1, z2, z3, z4, z5, z6, z7, z8, z9⟩
    clear hKK KK
    refine wpAnyH_ready (rs := [9]) (by kernel_rfl) (by simp) ?_
    refine AllReadyH.cons rfl (fun KK hKK => ?_) AllReadyH.nil
    go_simp
    refine hKK.out _ _ ?_ (fun hHeld => ?_)
    · first | go_keep | exact ⟨z0, z1, z2, z3, z4, z5, z6, z7, z8, z9⟩
    clear hKK KK
    refine wpAnyH_ready (rs := [11]) (by kernel_rfl) (by simp) ?_
    refine AllReadyH.cons rfl (fun KK hKK => ?_) AllReadyH.nil
    go_simp
    go_wp2_with (first | (go_at_call 16; refine Calls.mono (HEND.out _ (by first | exact HBU.out | exact HBU.out.drew | exact ((Below.refl _ _).alloc (Nat.le_refl _) _).drew | (refine Below.alloc ?_ ?_ _ <;> first | exact (Below.refl _ _).drew | exact Nat.le_refl _))) ?_; rintro e w8 ⟨rfl, ho8, V8, S8, M8, hos, hbv8, htx8, hb8⟩; obtain ⟨z0, z1, z2, z3, z4, z5, z6, z7, z8, z9⟩ := ((HCL.out _ (by first | exact HBU.out | exact HBU.out.drew | exact ((Below.refl _ _).alloc (Nat.le_refl _) _).drew)).only ho8 HBXN.out).ten; have HOS : Hid (OSt w8 b V8 S8 L M8 2824 2 c2 tt ∧ b ∉ V8.all ∧ TouchX M8.read c2 n dd) := ⟨hos, hbv8, htx8⟩; have HB8 : Hid (Below w.heap.size w w8) := hb8; clear hos hbv8 htx8 hb8))
    refine hKK.out _ _ ?_ (fun hHeld => ?_)
    · first | go_keep | exact ⟨z0, z1, z2, z3, z4, z5, z6, z7, z8, z9⟩
    clear hKK KK
    refine wpAnyH_take (i := 12) (oi := ?oi_b12) (v := ?v_b12) ?hi_b12 ?hs_b12 ?hf_b12 ?hr_b12 ?hQ_b12 ?hy_b12 ?hS_b12 ?rest_b12
    case hi_b12 => simp only [List.getElem?_toArray, List.getElem?_cons_succ, List.getElem?_cons_zero] <;> rfl
    case hs_b12 => kernel_rfl
    case hf_b12 => kernel_rfl
    case hr_b12 => kernel_rfl
    case hQ_b12 => exact fun _ _ _ h => h
    case hS_b12 => assumption
    case hy_b12 =>
      refine Or.inl ⟨by rfl, ?_⟩
      intro w hSw
      (try dsimp only at hSw)
      go_simp
      try with_reducible rfl
    try simp only [Act.put, List.setIfInBounds_toArray, List.set_cons_zero, List.set_cons_succ]
    refine wpAnyH_take (i := 13) (oi := ?oi_b13) (v := ?v_b13) ?hi_b13 ?hs_b13 ?hf_b13 ?hr_b13 ?hQ_b13 ?hy_b13 ?hS_b13 ?rest_b13
    case hi_b13 => simp only [List.getElem?_toArray, List.getElem?_cons_succ, List.getElem?_cons_zero] <;> rfl
    case hs_b13 => kernel_rfl
    case hf_b13 => kernel_rfl
    case hr_b13 => kernel_rfl
    case hQ_b13 => exact fun _ _ _ h => h
    case hS_b13 => assumption
    case hy_b13 =>
      refine Or.inl ⟨by rfl, ?_⟩
      intro w hSw
      (try dsimp only at hSw)
      go_simp
      try with_reducible rfl
    try simp only [Act.put, List.setIfInBounds_toArray, List.set_cons_zero, List.set_cons_succ]
    refine wpAnyH_done (by kernel_rfl) ?_ _
    clear z0 z1 z2 z3 z4 z5 z6 z7 z8 z9 hmk hcv hzs hzn htt hHeld HWR HB2 HF2 HON HCX HHO HEND HCL HFX HBU HBX HBXN
    have hpos := HDD.out
    by_cases hd : dd.size = 0
    · obtain ⟨ho0, hs0⟩ := touch_none HOS.out.2.2 hd
      have hdl : dd.toList = [] := by rw [ByteArray.toList_eq]; exact List.length_eq_zero_iff.1 (by rw [Array.length_toList]; exact hd)
      have HOW : Hid (Calls Tryz.prog 12 #[.pointer (some ⟨b, 0, none⟩)] w8 fun e w' => e = .returned (.int .i64 0) ∧ Below w8.heap.size w8 w') := by
        have := own_file b V8 S8 L M8 2824 2 c2 tt w8 HOS.out.1 (by omega) (by omega)
        rw [ho0] at this
        exact this
      have HF8 : Hid (FObjC w8 b V8.vb L.mb 2 c2 tt) := HOS.out.1.obj
      have hie : dd.toList.isEmpty = true := by rw [hdl]; rfl
      clear ho0 hd hpos
      go_wp2_with fail
      refine Calls.mono (Hid.out HOW) ?_
      rintro e w9 ⟨rfl, hb9⟩
      have HB9 : Hid (Below w.heap.size w w9) := HB8.out.trans (hb9.mono HB8.out.size)
      have f5 : w9.cell? ⟨b, 5, none⟩ = some (.int .i64 c2.s) := (HF8.out.later hb9).c5
      rw [hs0] at f5
      clear hb9
      go_wp2
      go_ret
      exact ⟨rfl, HB9.out⟩
    · have hd0 : 0 < dd.size := by omega
      have hdl : ¬ dd.toList = [] := not_nil hd0
      have hie : dd.toList.isEmpty = false := by simpa using hdl
      have hto := touch_own HOS.out.2.2 hd0 (by omega)
      have hdk : dd.size = k := hpos.1
      rw [hdk] at hto
      have HFS : Hid (FSt w8 b V8 S8 L M8 2824 2 c2 tt) := ⟨HOS.out.1.rest, HOS.out.1.obj, HOS.out.2.1, HST.out.bL, by rw [← HTT.out]; exact touch_ok HOS.out.2.2 hd0 (by omega)⟩
      have HWL : Hid (∀ u, Below w8.heap.size w8 u → Calls Tryz.prog 11 #[.pointer (some ⟨b, 0, none⟩)] u fun e w' => e = .returned (.bool true) ∧ Below u.heap.size u w') := fun u hb => whole_any b V8 S8 L M8 2824 2 c2 tt u (HFS.out.later hb)
      obtain ⟨cnt, hcnt⟩ : ∃ x, (ownL (mapF M8.read c2.d0 c2.d1 c2.d2 c2.d3 c2.d4 c2.m) c2.m).length = x := ⟨_, rfl⟩
      have HOW : Hid (Calls Tryz.prog 12 #[.pointer (some ⟨b, 0, none⟩)] w8 fun e w' => e = .returned (.int .i64 (cnt : Nat)) ∧ Below w8.heap.size w8 w') := by
        have := own_any b V8 S8 L M8 2824 2 c2 tt w8 HFS.out (by omega) (by omega)
        rw [hcnt] at this
        exact this
      rw [hcnt] at hto
      clear hcnt
      by_cases hl : 5 ≤ (n + k - 1) / 128
      · rw [if_pos hl] at hto
        have hl' : (5 : Int) ≤ ((n : Int) + (k : Int) - 1) / 128 := by omega
        have heq : (cnt : Int) = ((n : Int) + (k : Int) - 1) / 128 - (n : Int) / 128 + 1 + 1 := by omega
        clear hto hl
        go_wp2_with fail
        refine Calls.mono (Hid.out HOW) ?_
        rintro e w9 ⟨rfl, hb9⟩
        have HB9 : Hid (Below w8.heap.size w8 w9) := hb9
        clear hb9
        go_wp2_with (first
          | (go_at_call 11; refine Calls.mono (HWL.out _ HB9.out) ?_; rintro e w10 ⟨rfl, hb10⟩; have HBA : Hid (Below w.heap.size w w10) := HB8.out.trans ((HB9.out.mono HB8.out.size).trans (hb10.mono (by have := HB8.out.size; have := HB9.out.size; omega))); clear hb10)
          | go_in)
        go_ret
        exact ⟨by first | rfl | simp, HBA.out⟩
      · rw [if_neg hl] at hto
        have hl' : ¬ (5 : Int) ≤ ((n : Int) + (k : Int) - 1) / 128 := by omega
        have heq : (cnt : Int) = ((n : Int) + (k : Int) - 1) / 128 - (n : Int) / 128 + 1 := by omega
        clear hto hl
        go_wp2_with fail
        refine Calls.mono (Hid.out HOW) ?_
        rintro e w9 ⟨rfl, hb9⟩
        have HB9 : Hid (Below w8.heap.size w8 w9) := hb9
        clear hb9
        go_wp2_with (first
          | (go_at_call 11; refine Calls.mono (HWL.out _ HB9.out) ?_; rintro e w10 ⟨rfl, hb10⟩; have HBA : Hid (Below w.heap.size w w10) := HB8.out.trans ((HB9.out.mono HB8.out.size).trans (hb10.mono (by have := HB8.out.size; have := HB9.out.size; omega))); clear hb10)
          | go_in)
        go_ret
        exact ⟨by first | rfl | simp, HBA.out⟩
set_option maxRecDepth 100000 in
theorem lifted (os : Os) (started : os.Started) (H : Type) (enc : TypeId × Value → H) :
    ReturnsInHanded {} Tryz.checked os 6 .any (Rows.bodyTouchesSpec.pre6 enc Tryz.prog Tryz.f6 Rows.bodyTouchesRow.domain false) (Rows.bodyTouchesSpec.post enc Tryz.prog Tryz.f6 false true false false) := by
  refine returnsInHanded_of_change (C := Tryz.checked) own started (by kernel_rfl) Tryz.func6
    (ChangeSpec.witness6 (enc := enc) (C := Tryz.checked) false ⟨#[], #[.int .i64 0, .string ⟨#[]⟩], []⟩ 8 (by kernel_rfl) (by kernel_rfl) (by kernel_rfl) (by kernel_rfl)) ?_
  intro W base args ds gs before hval0 hW hcnd _
  have hval : ∀ (j : Nat) t v, Tryz.f6.params[j]? = some t → args[j]? = some v → Value.okWide Tryz.prog W .any base t v := hval0
  have hW' := hW
  obtain ⟨p, q, hA0, hV, rfl, hfz, hnd⟩ := hW
  have hA : DataW.TrodAll enc Tryz.prog W 0 (fun _ => true) true Tryz.f6.params.toList args.toList ds p := hA0
  rw [Tryz.params6] at hA hval
  obtain ⟨v0, vs0, d0, ds0, p0, q0, hargs, rfl, rfl, h0, r0⟩ := trodAll_cons hA
  obtain ⟨v1, vs1, d1, ds1, p1, q1, rfl, rfl, rfl, h1, r1⟩ := trodAll_cons r0
  obtain ⟨rfl, rfl, rfl⟩ := trodAll_nil r1
  obtain rfl : args = #[v0, v1] := by cases args; simp_all
  obtain ⟨rfl, rfl⟩ := trodVars_none hV
  obtain ⟨a0, rfl, rfl, rfl, w0⟩ := open_int Tryz.underlying3 (hval 0 3 v0 rfl rfl) h0
  obtain ⟨a1, rfl, rfl, rfl, w1⟩ := open_string Tryz.underlying9 (hval 1 9 v1 rfl rfl) h1
  clear hA0 hval0
  refine (walk a0 a1 W (bounds_i64 w0) w1).mono fun e W' ⟨he, bel⟩ => ?_
  subst he
  exact ⟨_, rfl, _, _, _, [], _, [], hW', trodAll_mk1 (shut_bool Tryz.underlying4 _), (trodAll_cons_mk (shut_int Tryz.underlying3 w0) (trodAll_cons_mk (shut_string Tryz.underlying9 w1) trodAll_mk0)), rfl, bel.frame _, fun h => by cases h⟩

theorem over : Rows.bodyTouchesRow.holds Tryz.pinned (OpenSpec.ofChange Rows.bodyTouchesSpec) :=
  OpenClaim.holds_of_wide 6 Tryz.f6 rfl rfl rfl rfl rfl rfl rfl ⟨rfl, rfl, rfl, rfl, rfl⟩ rfl rfl rfl rfl rfl (by kernel_rfl) Tryz.func6 (by kernel_rfl)
    (of_decide_eq_true (by kernel_rfl)) (by unfold Func.isWrapper; first | (rw [if_pos (by decide +kernel)]; kernel_rfl) | (rw [if_neg (by decide +kernel)]; exact ⟨rfl, rfl⟩))
    (fun os started H enc _ => lifted os started H enc)

theorem proved : Rows.BodyTouchesSaid := over
#print axioms proved
end Go.Proofs.YtdjnkibnnjobpaaGreat.bodyTouches
