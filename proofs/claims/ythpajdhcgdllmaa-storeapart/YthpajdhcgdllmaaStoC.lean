/- Contracts of Card where a card's words lie, of Node and of Release. -/
import Derived.Test.YthpajdhcgdllmaaStoB
namespace Go.Proofs.Ythpajdhcgdllmaa
open Go.RowKit Go.Maps Go.ChangeMaps

section
open Cd
theorem Cd.says_back {k l s d0 d1 d2 d3 d4 m : Int} (h : Rt k l s d0 d1 d2 d3 d4 m) : Says (wd0 k l s) (wd2 d0 d1 d2 d3) (wd3 d4 m) k l s d0 d1 d2 d3 d4 m := by
  have := h.fit
  unfold Fit Bk at this
  unfold Says wd0 wd2 wd3
  refine ⟨?_, ?_, ?_, ?_, ?_, ?_, ?_, ?_, ?_⟩ <;> omega
theorem Cd.read_back (g : Nat) (k l s v d0 d1 d2 d3 d4 m : Int) (w : World) (h : Rt k l s d0 d1 d2 d3 d4 m) (hs : Src w g 0 (wd0 k l s) v (wd2 d0 d1 d2 d3) (wd3 d4 m) 0 0 0 0) :
    Calls Try.prog 43 #[.slice (some ⟨g, 0, none⟩) 8 8] w fun e w' => e = .returned (.tuple #[.agg #[.int .i64 k, .int .i64 l, .int .i64 s, .int .u64 v, .int .i64 d0, .int .i64 d1, .int .i64 d2, .int .i64 d3, .int .i64 d4, .int .i64 m], .int .i64 0]) ∧ Below w.heap.size w w' :=
  read_yes g 0 8 _ v _ _ 0 0 0 0 k l s d0 d1 d2 d3 d4 m w hs (wd_bd h).1 (wd_bd h).2.1 (wd_bd h).2.2 (says_back h) h ⟨rfl, rfl, rfl, rfl, rfl, rfl, rfl⟩
end
/-- A card's words lie at a place. -/
def Vw.cardAt (S : Vw) (M : Mem) (node k l s v d0 d1 d2 d3 d4 m : Int) : Prop := ∀ i : Nat, i < 8 → S.word M (8 + 8 * node + (i : Int)) = cardRow k l s v d0 d1 d2 d3 d4 m i
theorem src_card {S : Vw} {M : Mem} {x : Int → Bool} {node k l s v d0 d1 d2 d3 d4 m : Int} {w : World} {b : Nat} (hs : Cd.Src w b 0 (({ S with seen := x } : Vw).word M (8 + 8 * node + ((0 : Nat) : Int))) (({ S with seen := x } : Vw).word M (8 + 8 * node + ((1 : Nat) : Int))) (({ S with seen := x } : Vw).word M (8 + 8 * node + ((2 : Nat) : Int))) (({ S with seen := x } : Vw).word M (8 + 8 * node + ((3 : Nat) : Int))) (({ S with seen := x } : Vw).word M (8 + 8 * node + ((4 : Nat) : Int))) (({ S with seen := x } : Vw).word M (8 + 8 * node + ((5 : Nat) : Int))) (({ S with seen := x } : Vw).word M (8 + 8 * node + ((6 : Nat) : Int))) (({ S with seen := x } : Vw).word M (8 + 8 * node + ((7 : Nat) : Int)))) (h : S.cardAt M node k l s v d0 d1 d2 d3 d4 m) : Cd.Src w b 0 (Cd.wd0 k l s) v (Cd.wd2 d0 d1 d2 d3) (Cd.wd3 d4 m) 0 0 0 0 := by
  have e : ∀ i : Nat, i < 8 → ({ S with seen := x } : Vw).word M (8 + 8 * node + (i : Int)) = cardRow k l s v d0 d1 d2 d3 d4 m i := fun i hi => h i hi
  rw [e 0 (by omega), e 1 (by omega), e 2 (by omega), e 3 (by omega), e 4 (by omega), e 5 (by omega), e 6 (by omega), e 7 (by omega)] at hs
  exact hs
set_option maxHeartbeats 1000000 in
theorem vcard_back (V : VLay) (S : Vw) (N : Nat) (L : Lay) (M : Mem) (node k l s v d0 d1 d2 d3 d4 m : Int) (w : World) (hon : On w V S N L M) (hN : N < 1000000000) (h0 : 0 ≤ node) (h1 : node < 24) (hrt : Cd.Rt k l s d0 d1 d2 d3 d4 m) (hca : S.cardAt M node k l s v d0 d1 d2 d3 d4 m) :
    Calls Try.prog 21 #[.pointer (some ⟨V.vb, 0, none⟩), .int .i64 node] w fun e w' => e = .returned (.tuple #[.agg #[.int .i64 k, .int .i64 l, .int .i64 s, .int .u64 v, .int .i64 d0, .int .i64 d1, .int .i64 d2, .int .i64 d3, .int .i64 d4, .int .i64 m], .int .i64 0]) ∧ On w' V { S with seen := addB S.seen node } (N + 1) L M ∧ Only V.blocks w w' := by
  obtain ⟨h, hm, hv, hVL⟩ := hon
  have HON : Hid (On w V S N L M) := ⟨h, hm, hv, hVL⟩
  have HRT : Hid (Cd.Rt k l s d0 d1 d2 d3 d4 m) := hrt
  have HCA : Hid (S.cardAt M node k l s v d0 d1 d2 d3 d4 m) := hca
  clear hrt hca
  have HC : Hid (∀ w, Calls Try.prog 18 #[.int .i64 node] w fun e w' => e = .returned (.tuple #[.int .i64 (8 + 8 * node), .int .i64 0]) ∧ w' = w) := fun w => card_at node w h0 h1
  have HVL : Hid (∀ b ∈ L.blocks, b ∉ V.all) := hVL
  have hwk : (Lit.int .i64 node).wf = true := WalkArith.wf_i64 (by omega)
  clear hVL
  go_enter Try.func21, Try.ntmps21
  go_wp2_with fail
  obtain ⟨X, hX, hZ, hB, hl⟩ := zero_new w
  rw [hX]
  clear hX
  obtain ⟨G, hG⟩ : ∃ G, w.heap.size = G := ⟨_, rfl⟩
  have HG : Hid (w.heap.size = G) := hG
  have HV : Hid (ViewIs X V S N) := h.later hB
  have HM : Hid (MemIs X L M) := hm.later hB
  have HB : Hid (Below G w X) := by rw [hG] at hB; exact hB
  rw [hG] at hZ hl ⊢
  clear hB hG
  have HZ : Hid (Cd.Zero X G) := hZ
  refine Calls.mono (HC.out _) ?_
  rintro e w' ⟨rfl, hw⟩
  obtain rfl := hw.symm
  have c2 := HV.out.c2
  clear hZ
  go_wp2_with (first
    | (go_at_call 28; refine (void_any V S N _ HV.out).mono ?_; rintro e w' ⟨rfl, hw⟩; obtain rfl := hw.symm)
    | (at_mapUpdate; refine wpList_sput _ rfl _ _ _ rfl V.sb N S.seen node rfl HV.out.seen (by unfold maxLen; omega) rfl rfl hwk ?_; intro w2 hm2 ht2
       have hO : Only [V.sb] X w2 := (Only.refl _ _).turned ht2 (by simp)
       have HV2 : Hid (ViewIs w2 V { S with seen := addB S.seen node } (N + 1)) := HV.out.newSeen hm2 (Nat.le_refl _) hO (addB_in HV.out.seenIn ⟨h0, h1⟩)
       have HM2 : Hid (MemIs w2 L M) := HM.out.kept hO (fun k hk hk2 => HVL.out k hk (by simp only [List.mem_singleton] at hk2; subst hk2; simp [VLay.all, VLay.blocks]))
       have HO2 : Hid (Only [V.sb] w w2) := (Only.of_below_le HB.out (by rw [HG.out]; exact Nat.le_refl _)).trans hO
       have HZ2 : Hid (Cd.Zero w2 G) := zero_only HZ.out hO (by have := h.seen.lt; have := HG.out; simp only [List.mem_singleton]; omega)
       have hs2 : Hid (X.heap.size ≤ w2.heap.size) := hO.size
       have HW : Hid (∀ k, 0 ≤ ({ S with seen := addB S.seen node } : Vw).word M k ∧ ({ S with seen := addB S.seen node } : Vw).word M k ≤ 18446744073709551615) := fun k => word_ok HV2.out HM2.out k
       clear hm2 ht2 hO c2)
    | (go_at_call 44; refine (vrow_any V { S with seen := addB S.seen node } (N + 1) L M (8 + 8 * node) 8 _ HV2.out HM2.out hv (by omega) (by omega) (by omega)).mono ?_; rintro e w3 ⟨rfl, hrow, hb3⟩
       have HB3 : Hid (Below w2.heap.size w2 w3) := hb3
       have HS0 := src_of_row (f := fun i => ({ S with seen := addB S.seen node } : Vw).word M (8 + 8 * node + (i : Int))) hrow
       have HS : Hid (Cd.Src w3 _ 0 (Cd.wd0 k l s) v (Cd.wd2 d0 d1 d2 d3) (Cd.wd3 d4 m) 0 0 0 0) := src_card HS0 HCA.out
       clear HS0
       clear hrow hb3)
    | (go_at_call 43; refine (Cd.read_back _ k l s v d0 d1 d2 d3 d4 m _ HRT.out HS.out).mono ?_; rintro e w4 ⟨rfl, hb4⟩
       have HB4 : Hid (Below w2.heap.size w2 w4) := HB3.out.trans (hb4.mono HB3.out.size)
       have hZ4 : Cd.Zero w4 G := HZ2.out.later (B := w2.heap.size) (by have := hs2.out; omega) HB4.out
       have fz := hZ4.frozen
       obtain ⟨z0, z1, z2, z3, z4, z5, z6, z7, z8, z9⟩ := hZ4.ten
       clear hZ4 hb4 HS)
    | go_in)
  have hs2' := hs2.out
  refine bodyPost_ret (v := .tuple #[.agg #[.int .i64 k, .int .i64 l, .int .i64 s, .int .u64 v, .int .i64 d0, .int .i64 d1, .int .i64 d2, .int .i64 d3, .int .i64 d4, .int .i64 m], .int .i64 0]) (by simp [results, Try.results21, go_sem, z0, z1, z2, z3, z4, z5, z6, z7, z8, z9]) rfl ⟨rfl, ?_⟩
  have hgx : ∀ y ∈ V.all, y < G := fun y hy => by have := h.all_lt y hy; have := HG.out; omega
  have HB5 : Below w2.heap.size w2 w4 := HB4.out
  have hbG : Below G w2 w4 := HB5.mono (by omega)
  have hfin := (((((((((hbG.setCell (p := ⟨G, 0, none⟩) (Nat.le_refl _) (.int .i64 k)).setCell (p := ⟨G, 1, none⟩) (Nat.le_refl _) (.int .i64 l)).setCell (p := ⟨G, 2, none⟩) (Nat.le_refl _) (.int .i64 s)).setCell (p := ⟨G, 3, none⟩) (Nat.le_refl _) (.int .u64 v)).setCell (p := ⟨G, 4, none⟩) (Nat.le_refl _) (.int .i64 d0)).setCell (p := ⟨G, 5, none⟩) (Nat.le_refl _) (.int .i64 d1)).setCell (p := ⟨G, 6, none⟩) (Nat.le_refl _) (.int .i64 d2)).setCell (p := ⟨G, 7, none⟩) (Nat.le_refl _) (.int .i64 d3)).setCell (p := ⟨G, 8, none⟩) (Nat.le_refl _) (.int .i64 d4)).setCell (p := ⟨G, 9, none⟩) (Nat.le_refl _) (.int .i64 m)
  have HO3 := HO2.out.thenBelow hfin (by rw [HG.out]; exact Nat.le_refl _)
  exact ⟨HON.out.step (HV2.out.below hfin hgx) HO3 (by simp [VLay.all, VLay.blocks]), only_blocks HO3 (by simp [VLay.blocks])⟩


/-- With a card set. -/
def Vw.setC (S : Vw) (node k l s v d0 d1 d2 d3 d4 m : Int) : Vw := { S with own := rowOwn S.own (8 + 8 * node) (cardRow k l s v d0 d1 d2 d3 d4 m) 8, seen := addB S.seen node, mine := addB S.mine node }
theorem word_row {S : Vw} {M : Mem} {own : Int → Option Int} {a : Int} {f : Nat → Int} {n : Nat} (h : S.own = rowOwn own a f n) (i : Nat) (hi : i < n) : S.word M (a + (i : Int)) = f i := by
  unfold Vw.word
  rw [h]
  unfold rowOwn
  rw [if_pos (by omega), Option.getD_some]
  congr 1
  omega
theorem word_row_out {S S0 : Vw} {M : Mem} {a : Int} {f : Nat → Int} {n : Nat} (h : S.own = rowOwn S0.own a f n) (j : Int) (hj : j < a ∨ a + (n : Int) ≤ j) : S.word M j = S0.word M j := by
  unfold Vw.word
  rw [h]
  unfold rowOwn
  rw [if_neg (by omega)]
theorem setC_card (S : Vw) (M : Mem) (node k l s v d0 d1 d2 d3 d4 m : Int) : (S.setC node k l s v d0 d1 d2 d3 d4 m).cardAt M node k l s v d0 d1 d2 d3 d4 m := fun i hi => word_row rfl i hi
theorem setC_out (S : Vw) (M : Mem) (node k l s v d0 d1 d2 d3 d4 m : Int) (j : Int) (hj : j < 8 + 8 * node ∨ 16 + 8 * node ≤ j) : (S.setC node k l s v d0 d1 d2 d3 d4 m).word M j = S.word M j := word_row_out rfl j (by omega)
theorem rt_fresh {k : Int} (h : k = 1 ∨ k = 2 ∨ k = 3) : Cd.Rt k 1 0 (-1) (-1) (-1) (-1) (-1) (-1) := .inr ⟨h, by omega, by omega, by unfold Cd.Bk; omega⟩
theorem rt_none : Cd.Rt 0 0 0 (-1) (-1) (-1) (-1) (-1) (-1) := .inl ⟨rfl, rfl, rfl, ⟨rfl, rfl, rfl, rfl, rfl⟩, rfl⟩
theorem fresh_wf {k l s v d0 d1 d2 d3 d4 m : Int} (h : Cd.Rt k l s d0 d1 d2 d3 d4 m) (hv : (Lit.int .u64 v).wf = true) : ∀ i, i < 8 → (Lit.int .u64 (cardRow k l s v d0 d1 d2 d3 d4 m i)).wf = true := by
  have hf := h.fit
  unfold Cd.Fit Cd.Bk at hf
  intro i _
  unfold cardRow
  split
  · exact WalkArith.wf_u64 (by unfold Cd.wd0; omega)
  · split
    · exact hv
    · split
      · exact WalkArith.wf_u64 (by unfold Cd.wd2; omega)
      · split
        · exact WalkArith.wf_u64 (by unfold Cd.wd3; omega)
        · rfl
/-- Set, where the card may be. -/
theorem vsetC (V : VLay) (S : Vw) (N : Nat) (L : Lay) (M : Mem) (node k l s v d0 d1 d2 d3 d4 m : Int) (w : World) (h : On w V S N L M) (hN : N < 800000000) (h0 : 0 ≤ node) (h1 : node < 24) (hr : Cd.Rt k l s d0 d1 d2 d3 d4 m) (hv : (Lit.int .u64 v).wf = true) :
    Calls Try.prog 35 #[.pointer (some ⟨V.vb, 0, none⟩), .int .i64 node, .agg #[.int .i64 k, .int .i64 l, .int .i64 s, .int .u64 v, .int .i64 d0, .int .i64 d1, .int .i64 d2, .int .i64 d3, .int .i64 d4, .int .i64 m]] w fun e w' => e = .returned (.int .i64 0) ∧ On w' V (S.setC node k l s v d0 d1 d2 d3 d4 m) (N + 10) L M ∧ Only V.blocks w w' :=
  (vset_yes V S N node k l s v d0 d1 d2 d3 d4 m w h.view (by omega) h0 h1 hr (fresh_wf hr hv)).mono fun _ _ ⟨e1, e2, e3⟩ => ⟨e1, h.step e2 e3 (by simp [VLay.all, VLay.blocks]), only_blocks e3 (by simp [VLay.blocks])⟩

theorem cnone_eq (v : Int) (w : World) :
    Calls Try.prog 42 #[.int .u64 v] w fun e w' => e = .returned (.agg #[.int .i64 0, .int .i64 0, .int .i64 0, .int .u64 v, .int .i64 (-1), .int .i64 (-1), .int .i64 (-1), .int .i64 (-1), .int .i64 (-1), .int .i64 (-1)]) ∧ w' = (w.alloc (.cells #[.int .i64 0, .int .i64 0, .int .i64 0, .int .u64 v, .int .i64 (-1), .int .i64 (-1), .int .i64 (-1), .int .i64 (-1), .int .i64 (-1), .int .i64 (-1)] 47)).alloc (.cells #[.int .i64 0, .int .i64 0, .int .i64 0, .int .u64 v, .int .i64 (-1), .int .i64 (-1), .int .i64 (-1), .int .i64 (-1), .int .i64 (-1), .int .i64 (-1)] 47) := by
  go_enter Try.func42, Try.ntmps42
  go_wp2
  refine wp_loop_rounds 6 ?_
  rw [rounds_succ]
  go_wp2
  rw [rounds_succ]
  go_wp2
  rw [rounds_succ]
  go_wp2
  rw [rounds_succ]
  go_wp2
  rw [rounds_succ]
  go_wp2
  rw [rounds_succ]
  go_wp2
  refine bodyPost_ret (v := .agg #[_, _, _, _, _, _, _, _, _, _]) (by simp [results, Try.results42, go_sem]) rfl ⟨rfl, rfl⟩
set_option maxHeartbeats 1000000 in
theorem fresh_yes (k v : Int) (w : World) (h : k = 1 ∨ k = 2 ∨ k = 3) :
    Calls Try.prog 30 #[.int .i64 k, .int .u64 v] w fun e w' => e = .returned (.tuple #[.agg #[.int .i64 k, .int .i64 1, .int .i64 0, .int .u64 v, .int .i64 (-1), .int .i64 (-1), .int .i64 (-1), .int .i64 (-1), .int .i64 (-1), .int .i64 (-1)], .int .i64 0]) ∧ Below w.heap.size w w' := by
  have HK : Hid (k = 1 ∨ k = 2 ∨ k = 3) := h
  clear h
  go_enter Try.func30, Try.ntmps30
  go_wp2_with fail
  refine (Cd.isFile_yes k _ HK.out).mono ?_
  rintro e w' ⟨rfl, hw⟩
  obtain rfl := hw.symm
  go_wp2_with fail
  refine (cnone_eq v _).mono ?_
  rintro e w1 ⟨rfl, rfl⟩
  go_wp2
  refine bodyPost_ret (v := .tuple #[.agg #[_, _, _, _, _, _, _, _, _, _], _]) (by simp [results, Try.results30, go_sem]) rfl ⟨rfl, ?_⟩
  exact (((((Below.refl _ _).alloc (Nat.le_refl _) _).alloc (by simp <;> omega) _).alloc (by simp <;> omega) _).alloc (by simp <;> omega) _)
set_option maxHeartbeats 1000000 in
theorem fresh_no (k v : Int) (w : World) (h : ¬ (k = 1 ∨ k = 2 ∨ k = 3)) :
    Calls Try.prog 30 #[.int .i64 k, .int .u64 v] w fun e w' => e = .returned (.tuple #[.agg #[.int .i64 0, .int .i64 0, .int .i64 0, .int .u64 0, .int .i64 0, .int .i64 0, .int .i64 0, .int .i64 0, .int .i64 0, .int .i64 0], .int .i64 1]) ∧ Below w.heap.size w w' := by
  have HK : Hid (¬ (k = 1 ∨ k = 2 ∨ k = 3)) := h
  clear h
  go_enter Try.func30, Try.ntmps30
  go_wp2_with fail
  refine (Cd.isFile_no k _ HK.out).mono ?_
  rintro e w' ⟨rfl, hw⟩
  obtain rfl := hw.symm
  go_wp2
  refine bodyPost_ret (v := .tuple #[.agg #[_, _, _, _, _, _, _, _, _, _], _]) (by simp [results, Try.results30, go_sem]) rfl ⟨rfl, ?_⟩
  exact Cd.below_box0 _ _

end Go.Proofs.Ythpajdhcgdllmaa
