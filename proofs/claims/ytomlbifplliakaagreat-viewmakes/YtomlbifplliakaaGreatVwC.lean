/- Contracts of the plan's places of cards, owners and blocks, and of the view's Card, Block and SetBlock. -/
import Derived.Test.YtomlbifplliakaaGreatVwB
import Derived.Test.YtomlbifplliakaaGreatCdRead
import Derived.Deep.RegionHeld3
namespace Go.Proofs.YtomlbifplliakaaGreat
open Go.RowKit Go.Maps Go.ChangeMaps

theorem card_first (k : Int) (w : World) (h0 : 0 ≤ k) (h1 : k < 24) :
    Calls Tryz.prog 70 #[.int .i64 8, .int .i64 8, .int .i64 24, .int .i64 k] w fun e w' => e = .returned (.tuple #[.int .i64 (8 + 8 * k), .int .i64 0]) ∧ w' = w := by
  go_enter Tryz.func70, Tryz.ntmps70
  go_wp2
  go_ret2
  exact ⟨rfl, rfl⟩
theorem card_at (k : Int) (w : World) (h0 : 0 ≤ k) (h1 : k < 24) :
    Calls Tryz.prog 56 #[.int .i64 k] w fun e w' => e = .returned (.tuple #[.int .i64 (8 + 8 * k), .int .i64 0]) ∧ w' = w := by
  go_enter Tryz.func56, Tryz.ntmps56
  go_wp2_with (go_at_call 70; refine (card_first k _ h0 h1).mono ?_; rintro e w' ⟨rfl, rfl⟩)
  go_ret2
  exact ⟨rfl, rfl⟩
theorem card_nofirst (k : Int) (w : World) (h : k < 0 ∨ 24 ≤ k) :
    Calls Tryz.prog 70 #[.int .i64 8, .int .i64 8, .int .i64 24, .int .i64 k] w fun e w' => e = .returned (.tuple #[.int .i64 0, .int .i64 1]) ∧ w' = w := by
  rcases h with h | h
  · go_enter Tryz.func70, Tryz.ntmps70
    go_wp2
    go_ret2
    exact ⟨rfl, rfl⟩
  · have h' : ¬ k < 0 := by omega
    go_enter Tryz.func70, Tryz.ntmps70
    go_wp2
    go_ret2
    exact ⟨rfl, rfl⟩
theorem card_no (k : Int) (w : World) (h : k < 0 ∨ 24 ≤ k) :
    Calls Tryz.prog 56 #[.int .i64 k] w fun e w' => e = .returned (.tuple #[.int .i64 0, .int .i64 1]) ∧ w' = w := by
  have H : Hid (k < 0 ∨ 24 ≤ k) := h
  clear h
  go_enter Tryz.func56, Tryz.ntmps56
  go_wp2_with (go_at_call 70; refine (card_nofirst k _ H.out).mono ?_; rintro e w' ⟨rfl, rfl⟩)
  go_ret2
  exact ⟨rfl, rfl⟩

theorem owner_first (k : Int) (w : World) (h0 : 0 ≤ k) (h1 : k < 96) :
    Calls Tryz.prog 70 #[.int .i64 200, .int .i64 1, .int .i64 96, .int .i64 k] w fun e w' => e = .returned (.tuple #[.int .i64 (200 + k), .int .i64 0]) ∧ w' = w := by
  go_enter Tryz.func70, Tryz.ntmps70
  go_wp2
  go_ret2
  exact ⟨rfl, rfl⟩
theorem owner_at (k : Int) (w : World) (h0 : 0 ≤ k) (h1 : k < 96) :
    Calls Tryz.prog 54 #[.int .i64 k] w fun e w' => e = .returned (.tuple #[.int .i64 (200 + k), .int .i64 0]) ∧ w' = w := by
  go_enter Tryz.func54, Tryz.ntmps54
  go_wp2_with (go_at_call 70; refine (owner_first k _ h0 h1).mono ?_; rintro e w' ⟨rfl, rfl⟩)
  go_ret2
  exact ⟨rfl, rfl⟩
theorem owner_nofirst (k : Int) (w : World) (h : k < 0 ∨ 96 ≤ k) :
    Calls Tryz.prog 70 #[.int .i64 200, .int .i64 1, .int .i64 96, .int .i64 k] w fun e w' => e = .returned (.tuple #[.int .i64 0, .int .i64 1]) ∧ w' = w := by
  rcases h with h | h
  · go_enter Tryz.func70, Tryz.ntmps70
    go_wp2
    go_ret2
    exact ⟨rfl, rfl⟩
  · have h' : ¬ k < 0 := by omega
    go_enter Tryz.func70, Tryz.ntmps70
    go_wp2
    go_ret2
    exact ⟨rfl, rfl⟩
theorem owner_no (k : Int) (w : World) (h : k < 0 ∨ 96 ≤ k) :
    Calls Tryz.prog 54 #[.int .i64 k] w fun e w' => e = .returned (.tuple #[.int .i64 0, .int .i64 1]) ∧ w' = w := by
  have H : Hid (k < 0 ∨ 96 ≤ k) := h
  clear h
  go_enter Tryz.func54, Tryz.ntmps54
  go_wp2_with (go_at_call 70; refine (owner_nofirst k _ H.out).mono ?_; rintro e w' ⟨rfl, rfl⟩)
  go_ret2
  exact ⟨rfl, rfl⟩

theorem block_first (k : Int) (w : World) (h0 : 0 ≤ k) (h1 : k < 96) :
    Calls Tryz.prog 70 #[.int .i64 1288, .int .i64 16, .int .i64 96, .int .i64 k] w fun e w' => e = .returned (.tuple #[.int .i64 (1288 + 16 * k), .int .i64 0]) ∧ w' = w := by
  go_enter Tryz.func70, Tryz.ntmps70
  go_wp2
  go_ret2
  exact ⟨rfl, rfl⟩
theorem block_at (k : Int) (w : World) (h0 : 0 ≤ k) (h1 : k < 96) :
    Calls Tryz.prog 63 #[.int .i64 k] w fun e w' => e = .returned (.tuple #[.int .i64 (1288 + 16 * k), .int .i64 0]) ∧ w' = w := by
  go_enter Tryz.func63, Tryz.ntmps63
  go_wp2_with (go_at_call 70; refine (block_first k _ h0 h1).mono ?_; rintro e w' ⟨rfl, rfl⟩)
  go_ret2
  exact ⟨rfl, rfl⟩
theorem block_nofirst (k : Int) (w : World) (h : k < 0 ∨ 96 ≤ k) :
    Calls Tryz.prog 70 #[.int .i64 1288, .int .i64 16, .int .i64 96, .int .i64 k] w fun e w' => e = .returned (.tuple #[.int .i64 0, .int .i64 1]) ∧ w' = w := by
  rcases h with h | h
  · go_enter Tryz.func70, Tryz.ntmps70
    go_wp2
    go_ret2
    exact ⟨rfl, rfl⟩
  · have h' : ¬ k < 0 := by omega
    go_enter Tryz.func70, Tryz.ntmps70
    go_wp2
    go_ret2
    exact ⟨rfl, rfl⟩
theorem block_no (k : Int) (w : World) (h : k < 0 ∨ 96 ≤ k) :
    Calls Tryz.prog 63 #[.int .i64 k] w fun e w' => e = .returned (.tuple #[.int .i64 0, .int .i64 1]) ∧ w' = w := by
  have H : Hid (k < 0 ∨ 96 ≤ k) := h
  clear h
  go_enter Tryz.func63, Tryz.ntmps63
  go_wp2_with (go_at_call 70; refine (block_nofirst k _ H.out).mono ?_; rintro e w' ⟨rfl, rfl⟩)
  go_ret2
  exact ⟨rfl, rfl⟩

/-- Read of eight words, whichever they are: a card, and an error. -/
theorem cdRead_any (b o c : Nat) (a0 a1 a2 a3 a4 a5 a6 a7 : Int) (w : World) (hs : Cd.Src w b o a0 a1 a2 a3 a4 a5 a6 a7) (h0 : 0 ≤ a0 ∧ a0 ≤ 18446744073709551615) (h2 : 0 ≤ a2 ∧ a2 ≤ 18446744073709551615) (h3 : 0 ≤ a3 ∧ a3 ≤ 18446744073709551615) :
    Calls Tryz.prog 57 #[.slice (some ⟨b, o, none⟩) 8 c] w fun e w' => ∃ k l s v d0 d1 d2 d3 d4 m x : Int, e = .returned (.tuple #[.agg #[.int .i64 k, .int .i64 l, .int .i64 s, .int .u64 v, .int .i64 d0, .int .i64 d1, .int .i64 d2, .int .i64 d3, .int .i64 d4, .int .i64 m], .int .i64 x]) ∧ Below w.heap.size w w' := by
  obtain ⟨k, l, s, d0, d1, d2, d3, d4, m, hy⟩ : ∃ k l s d0 d1 d2 d3 d4 m, Cd.Says a0 a2 a3 k l s d0 d1 d2 d3 d4 m := by
    unfold Cd.Says
    exact ⟨_, _, _, _, _, _, _, _, _, rfl, rfl, rfl, rfl, rfl, rfl, rfl, rfl, rfl⟩
  by_cases hr : Cd.Rt k l s d0 d1 d2 d3 d4 m
  · by_cases hq : (Cd.wd0 k l s = a0 ∧ Cd.wd2 d0 d1 d2 d3 = a2 ∧ Cd.wd3 d4 m = a3 ∧ 0 = a4 ∧ 0 = a5 ∧ 0 = a6 ∧ 0 = a7)
    · exact (Cd.read_yes b o c a0 a1 a2 a3 a4 a5 a6 a7 k l s d0 d1 d2 d3 d4 m w hs h0 h2 h3 hy hr hq).mono fun e w' ⟨h, hb⟩ => ⟨_, _, _, _, _, _, _, _, _, _, _, h, hb⟩
    · exact (Cd.read_other b o c a0 a1 a2 a3 a4 a5 a6 a7 k l s d0 d1 d2 d3 d4 m w hs h0 h2 h3 hy hr hq).mono fun e w' ⟨h, hb⟩ => ⟨_, _, _, _, _, _, _, _, _, _, _, h, hb⟩
  · exact (Cd.read_bad b o c a0 a1 a2 a3 a4 a5 a6 a7 k l s d0 d1 d2 d3 d4 m w hs h0 h2 h3 hy hr).mono fun e w' ⟨h, hb⟩ => ⟨_, _, _, _, _, _, _, _, _, _, _, h, hb⟩

theorem Only.thenBelow {X : List Nat} {a b c : World} {B : Nat} (h : Only X a b) (hb : Below B b c) (hB : a.heap.size ≤ B) : Only X a c :=
  ⟨hb.os.trans h.os, hb.tape.trans h.tape, hb.output.trans h.output, Nat.le_trans h.size hb.size, fun k hk hn => (hb.block k (by omega)).trans (h.block k hk hn)⟩

theorem word_ok {V : VLay} {S : Vw} {N : Nat} {L : Lay} {M : Mem} {w : World} (h : ViewIs w V S N) (hm : MemIs w L M) (k : Int) : 0 ≤ S.word M k ∧ S.word M k ≤ 18446744073709551615 := by
  unfold Vw.word
  cases hl : S.own k with
  | some v =>
    have := h.own.wf hl
    exact bounds_u64 this
  | none =>
    simp only [Option.getD_none]
    unfold Mem.read
    split
    · cases hl2 : M.loose k with
      | some v =>
        have := hm.loose.wf hl2
        exact bounds_u64 this
      | none =>
        simp only [Option.getD_none]
        by_cases hk : k.toNat < M.sure.length
        · have := hm.words (M.sure.getD k.toNat 0) (by simp [hk])
          exact bounds_u64 this
        · simp [hk]
    · omega


theorem zero_new (w : World) : ∃ X : World, w.alloc (.cells #[.int .i64 0, .int .i64 0, .int .i64 0, .int .u64 0, .int .i64 0, .int .i64 0, .int .i64 0, .int .i64 0, .int .i64 0, .int .i64 0] 38) = X ∧ Cd.Zero X w.heap.size ∧ Below w.heap.size w X ∧ w.heap.size < X.heap.size := by
  refine ⟨_, rfl, ?_, (Below.refl _ _).alloc (Nat.le_refl _) _, by simp⟩
  unfold Cd.Zero
  show (w.heap.push _)[w.heap.size]? = _
  simp
theorem vcard_no (V : VLay) (S : Vw) (N : Nat) (node : Int) (w : World) (h : ViewIs w V S N) (hn : node < 0 ∨ 24 ≤ node) :
    Calls Tryz.prog 31 #[.pointer (some ⟨V.vb, 0, none⟩), .int .i64 node] w fun e w' => e = .returned (.tuple #[.agg #[.int .i64 0, .int .i64 0, .int .i64 0, .int .u64 0, .int .i64 0, .int .i64 0, .int .i64 0, .int .i64 0, .int .i64 0, .int .i64 0], .int .i64 1]) ∧ Below w.heap.size w w' := by
  have hc := fun w => card_no node w hn
  have HC : Hid (∀ w, Calls Tryz.prog 56 #[.int .i64 node] w fun e w' => e = .returned (.tuple #[.int .i64 0, .int .i64 1]) ∧ w' = w) := hc
  clear hc hn
  go_enter Tryz.func31, Tryz.ntmps31
  go_wp2_with fail
  obtain ⟨X, hX, hZ, hB, hl⟩ := zero_new w
  rw [hX]
  clear hX
  have HV : Hid (ViewIs X V S N) := h.later hB
  refine Calls.mono (HC.out _) ?_
  rintro e w' ⟨rfl, hw⟩
  obtain rfl := hw.symm
  have fz := hZ.frozen
  obtain ⟨z0, z1, z2, z3, z4, z5, z6, z7, z8, z9⟩ := hZ.ten
  go_wp2_with (first
    | (go_at_call 47; refine (void_any V S N _ HV.out).mono ?_; rintro e w' ⟨rfl, hw⟩; obtain rfl := hw.symm)
    | go_in)
  refine bodyPost_ret (v := .tuple #[.agg #[_, _, _, _, _, _, _, _, _, _], _]) (by simp [results, Tryz.results31, go_sem, z0, z1, z2, z3, z4, z5, z6, z7, z8, z9]) rfl ⟨rfl, ?_⟩
  exact (((((((((hB.setCell (p := ⟨w.heap.size, 0, none⟩) (Nat.le_refl _) _).setCell (p := ⟨w.heap.size, 1, none⟩) (Nat.le_refl _) _).setCell (p := ⟨w.heap.size, 2, none⟩) (Nat.le_refl _) _).setCell (p := ⟨w.heap.size, 3, none⟩) (Nat.le_refl _) _).setCell (p := ⟨w.heap.size, 4, none⟩) (Nat.le_refl _) _).setCell (p := ⟨w.heap.size, 5, none⟩) (Nat.le_refl _) _).setCell (p := ⟨w.heap.size, 6, none⟩) (Nat.le_refl _) _).setCell (p := ⟨w.heap.size, 7, none⟩) (Nat.le_refl _) _).setCell (p := ⟨w.heap.size, 8, none⟩) (Nat.le_refl _) _).setCell (p := ⟨w.heap.size, 9, none⟩) (Nat.le_refl _) _


theorem zero_only {w w' : World} {g : Nat} {X : List Nat} (h : Cd.Zero w g) (ho : Only X w w') (hg : g ∉ X) : Cd.Zero w' g := by
  have hl : g < w.heap.size := by
    by_cases e : g < w.heap.size
    · exact e
    · unfold Cd.Zero at h
      rw [Array.getElem?_eq_none (by omega)] at h
      cases h
  unfold Cd.Zero
  rw [ho.block g hl hg]
  exact h
theorem src_of_row {w : World} {g B : Nat} {f : Nat → Int} (h : w.ownsRow B 35 1 (.slice (some ⟨g, 0, none⟩) 8 8) 8 ((List.range 8).map fun (i : Nat) => Value.int .u64 (f i))) : Cd.Src w g 0 (f 0) (f 1) (f 2) (f 3) (f 4) (f 5) (f 6) (f 7) := by
  have hc : ∀ i, i < 8 → w.cell? ⟨g, i, none⟩ = some (.int .u64 (f i)) := fun i hi => by
    rw [h.cellAt i (by simpa using hi)]
    simp [hi]
  have hl := World.block_lt_of_cell? w _ (hc 0 (by omega))
  exact ⟨hl, hc 0 (by omega), hc 1 (by omega), hc 2 (by omega), hc 3 (by omega), hc 4 (by omega), hc 5 (by omega), hc 6 (by omega), hc 7 (by omega)⟩
set_option maxHeartbeats 1000000 in
theorem vcard_yes (V : VLay) (S : Vw) (N : Nat) (L : Lay) (M : Mem) (node : Int) (w : World) (h : ViewIs w V S N) (hm : MemIs w L M) (hv : V.mb = L.mb) (hVL : ∀ b ∈ L.blocks, b ∉ V.all) (hN : N < 1000000000) (h0 : 0 ≤ node) (h1 : node < 24) :
    Calls Tryz.prog 31 #[.pointer (some ⟨V.vb, 0, none⟩), .int .i64 node] w fun e w' => ∃ k l s v d0 d1 d2 d3 d4 m x : Int, e = .returned (.tuple #[.agg #[.int .i64 k, .int .i64 l, .int .i64 s, .int .u64 v, .int .i64 d0, .int .i64 d1, .int .i64 d2, .int .i64 d3, .int .i64 d4, .int .i64 m], .int .i64 x]) ∧ ViewIs w' V { S with seen := addB S.seen node } (N + 1) ∧ Only [V.sb] w w' := by
  have HC : Hid (∀ w, Calls Tryz.prog 56 #[.int .i64 node] w fun e w' => e = .returned (.tuple #[.int .i64 (8 + 8 * node), .int .i64 0]) ∧ w' = w) := fun w => card_at node w h0 h1
  have HVL : Hid (∀ b ∈ L.blocks, b ∉ V.all) := hVL
  have hwk : (Lit.int .i64 node).wf = true := WalkArith.wf_i64 (by omega)
  clear hVL
  go_enter Tryz.func31, Tryz.ntmps31
  go_wp2_with fail
  obtain ⟨X, hX, hZ, hB, hl⟩ := zero_new w
  rw [hX]
  clear hX
  obtain ⟨G, hG⟩ : ∃ G, w.heap.size = G := ⟨_, rfl⟩
  have HG : Hid (w.heap.size = G) := hG
  have HV : Hid (ViewIs X V S N) := h.later hB
  have HM : Hid (MemIs X L M) := hm.later hB
  have HB : Hid (Below G w X) := by rw [hG] at hB; exact hB
  rw [hG] at hZ hl ⊢
  clear hB hG
  have HZ : Hid (Cd.Zero X G) := hZ
  refine Calls.mono (HC.out _) ?_
  rintro e w' ⟨rfl, hw⟩
  obtain rfl := hw.symm
  have c2 := HV.out.c2
  clear hZ
  go_wp2_with (first
    | (go_at_call 47; refine (void_any V S N _ HV.out).mono ?_; rintro e w' ⟨rfl, hw⟩; obtain rfl := hw.symm)
    | (at_mapUpdate; refine wpList_sput _ rfl _ _ _ rfl V.sb N S.seen node rfl HV.out.seen (by unfold maxLen; omega) rfl rfl hwk ?_; intro w2 hm2 ht2
       have hO : Only [V.sb] X w2 := (Only.refl _ _).turned ht2 (by simp)
       have HV2 : Hid (ViewIs w2 V { S with seen := addB S.seen node } (N + 1)) := HV.out.newSeen hm2 (Nat.le_refl _) hO (addB_in HV.out.seenIn ⟨h0, h1⟩)
       have HM2 : Hid (MemIs w2 L M) := HM.out.kept hO (fun k hk hk2 => HVL.out k hk (by simp only [List.mem_singleton] at hk2; subst hk2; simp [VLay.all, VLay.blocks]))
       have HO2 : Hid (Only [V.sb] w w2) := (Only.of_below_le HB.out (by rw [HG.out]; exact Nat.le_refl _)).trans hO
       have HZ2 : Hid (Cd.Zero w2 G) := zero_only HZ.out hO (by have := h.seen.lt; have := HG.out; simp only [List.mem_singleton]; omega)
       have hs2 : Hid (X.heap.size ≤ w2.heap.size) := hO.size
       have HW : Hid (∀ k, 0 ≤ ({ S with seen := addB S.seen node } : Vw).word M k ∧ ({ S with seen := addB S.seen node } : Vw).word M k ≤ 18446744073709551615) := fun k => word_ok HV2.out HM2.out k
       clear hm2 ht2 hO c2)
    | (go_at_call 58; refine (vrow_any V { S with seen := addB S.seen node } (N + 1) L M (8 + 8 * node) 8 _ HV2.out HM2.out hv (by omega) (by omega) (by omega)).mono ?_; rintro e w3 ⟨rfl, hrow, hb3⟩
       have HB3 : Hid (Below w2.heap.size w2 w3) := hb3
       have HS : Hid _ := src_of_row (f := fun i => ({ S with seen := addB S.seen node } : Vw).word M (8 + 8 * node + (i : Int))) hrow
       clear hrow hb3)
    | (go_at_call 57; refine (cdRead_any _ _ _ _ _ _ _ _ _ _ _ _ HS.out (HW.out _) (HW.out _) (HW.out _)).mono ?_; rintro e w4 ⟨k, l, s, v, d0, d1, d2, d3, d4, m, x, rfl, hb4⟩
       have HB4 : Hid (Below w2.heap.size w2 w4) := HB3.out.trans (hb4.mono HB3.out.size)
       have hZ4 : Cd.Zero w4 G := HZ2.out.later (B := w2.heap.size) (by have := hs2.out; omega) HB4.out
       have fz := hZ4.frozen
       obtain ⟨z0, z1, z2, z3, z4, z5, z6, z7, z8, z9⟩ := hZ4.ten
       clear hZ4 hb4 HS)
    | go_in)
  have hs2' := hs2.out
  refine bodyPost_ret (v := .tuple #[.agg #[.int .i64 k, .int .i64 l, .int .i64 s, .int .u64 v, .int .i64 d0, .int .i64 d1, .int .i64 d2, .int .i64 d3, .int .i64 d4, .int .i64 m], .int .i64 x]) (by simp [results, Tryz.results31, go_sem, z0, z1, z2, z3, z4, z5, z6, z7, z8, z9]) rfl ⟨k, l, s, v, d0, d1, d2, d3, d4, m, x, rfl, ?_⟩
  have hgx : ∀ y ∈ V.all, y < G := fun y hy => by have := h.all_lt y hy; have := HG.out; omega
  have HB5 : Below w2.heap.size w2 w4 := HB4.out
  have hbG : Below G w2 w4 := HB5.mono (by omega)
  have hfin := (((((((((hbG.setCell (p := ⟨G, 0, none⟩) (Nat.le_refl _) (.int .i64 k)).setCell (p := ⟨G, 1, none⟩) (Nat.le_refl _) (.int .i64 l)).setCell (p := ⟨G, 2, none⟩) (Nat.le_refl _) (.int .i64 s)).setCell (p := ⟨G, 3, none⟩) (Nat.le_refl _) (.int .u64 v)).setCell (p := ⟨G, 4, none⟩) (Nat.le_refl _) (.int .i64 d0)).setCell (p := ⟨G, 5, none⟩) (Nat.le_refl _) (.int .i64 d1)).setCell (p := ⟨G, 6, none⟩) (Nat.le_refl _) (.int .i64 d2)).setCell (p := ⟨G, 7, none⟩) (Nat.le_refl _) (.int .i64 d3)).setCell (p := ⟨G, 8, none⟩) (Nat.le_refl _) (.int .i64 d4)).setCell (p := ⟨G, 9, none⟩) (Nat.le_refl _) (.int .i64 m)
  exact ⟨HV2.out.below hfin hgx, HO2.out.thenBelow hfin (by rw [HG.out]; exact Nat.le_refl _)⟩

end Go.Proofs.YtomlbifplliakaaGreat
