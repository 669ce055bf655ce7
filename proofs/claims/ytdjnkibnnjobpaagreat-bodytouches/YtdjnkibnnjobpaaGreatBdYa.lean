/- How many blocks a file has: the walk. -/
import Derived.Test.YtdjnkibnnjobpaaGreatBdY
namespace Go.Proofs.YtdjnkibnnjobpaaGreat
open Go.RowKit Go.Maps Go.ChangeMaps

/-- A file whose blocks are looked at, whatever bytes stand beside it. -/
structure OSt (w : World) (b : Nat) (V : VLay) (S : Vw) (L : Lay) (M : Mem) (q : Nat) (node : Int) (c : Crd) (t : ByteArray) : Prop where
  rest : Rest w V S L M q
  obj : FObjC w b V.vb L.mb node c t
  file : FileIs M.read node c.d0 c.d1 c.d2 c.d3 c.d4 c.m
set_option maxHeartbeats 4000000 in
set_option maxRecDepth 100000 in
theorem own_file (b : Nat) (V : VLay) (Sv : Vw) (L : Lay) (M : Mem) (q : Nat) (node : Int) (c : Crd) (t : ByteArray) (w : World) (h : OSt w b V Sv L M q node c t) (n0 : 0 ≤ node) (n1 : node < 24) :
    Calls Tryz.prog 12 #[.pointer (some ⟨b, 0, none⟩)] w fun e w' => e = .returned (.int .i64 ((ownL (mapF M.read c.d0 c.d1 c.d2 c.d3 c.d4 c.m) c.m).length : Nat)) ∧ Below w.heap.size w w' := by
  obtain ⟨i0, hi0, hz0, hz1, hz2⟩ := info_parts Tryz.info3v
  have HST : Hid (OSt w b V Sv L M q node c t) := h
  have hW : Sv.word M = M.read := funext h.rest.word
  have hF : Fil M.read node (mapF M.read c.d0 c.d1 c.d2 c.d3 c.d4 c.m) c.m := h.file.1
  have HM : Hid (∀ w1, Below w.heap.size w w1 → Calls Tryz.prog 27 #[.pointer (some ⟨V.vb, 0, none⟩), .agg #[.int .i64 c.k, .int .i64 c.l, .int .i64 c.s, .int .u64 c.v, .int .i64 c.d0, .int .i64 c.d1, .int .i64 c.d2, .int .i64 c.d3, .int .i64 c.d4, .int .i64 c.m]] w1 fun e w' => (∃ g, w1.heap.size ≤ g ∧ e = .returned (.tuple #[.slice (some ⟨g, 0, none⟩) 21 21, .int .i64 0]) ∧ IRow w' g 21 (mapF M.read c.d0 c.d1 c.d2 c.d3 c.d4 c.m)) ∧ Below w1.heap.size w1 w') := fun w1 hb => by
    have hx := map_any V Sv 0 L M c.k c.l c.s c.v c.d0 c.d1 c.d2 c.d3 c.d4 c.m w1 (h.rest.on.later hb) hF.mrng.1 hF.mrng.2 true ⟨fun _ => by rw [hW]; exact h.file.may, fun _ => rfl⟩
    rw [hW] at hx
    refine hx.mono ?_
    rintro e w' ⟨h1, h2⟩
    rcases h1 with ⟨_, h1⟩ | ⟨h1, _⟩
    · exact ⟨h1, h2⟩
    · cases h1
  obtain ⟨mp, hmp⟩ : ∃ mp, mapF M.read c.d0 c.d1 c.d2 c.d3 c.d4 c.m = mp := ⟨_, rfl⟩
  rw [hmp] at HM hF ⊢
  have HFI : Hid (Fil M.read node mp c.m) := hF
  have HOW : Hid (∀ w1 k, Below w.heap.size w w1 → 0 ≤ k → k < 96 → M.read (200 + k) = node + 1 → Calls Tryz.prog 28 #[.pointer (some ⟨V.vb, 0, none⟩), .int .i64 k] w1 fun e w' => e = .returned (.tuple #[.int .i64 node, .int .i64 0]) ∧ Below w1.heap.size w1 w') := fun w1 k hb k0 k1 hk => by
    have hx := sowner_yes V Sv 0 L M k w1 (h.rest.on.later hb) k0 k1
    rw [hW, hk] at hx
    have e : ownerOf (node + 1) = .tuple #[.int .i64 node, .int .i64 0] := by
      unfold ownerOf
      rw [if_neg (by omega), if_neg (by omega), show node + 1 - 1 = node by omega]
    rw [e] at hx
    exact hx
  clear h hW hmp hF n0 n1
  have f0 := HST.out.obj.c0
  have f3 := HST.out.obj.c3
  have f4 := HST.out.obj.c4
  have f5 := HST.out.obj.c5
  have f6 := HST.out.obj.c6
  have f7 := HST.out.obj.c7
  have f8 := HST.out.obj.c8
  have f9 := HST.out.obj.c9
  have f10 := HST.out.obj.c10
  have f11 := HST.out.obj.c11
  have f12 := HST.out.obj.c12
  go_enter Tryz.func12, Tryz.ntmps12
  go_wp2
  go_region_held3 (fun v' => v'.cell? ⟨b, 0, none⟩ = some (.pointer (some ⟨V.vb, 0, none⟩)) ∧ v'.cell? ⟨b, 3, none⟩ = some (.int .i64 c.k) ∧ v'.cell? ⟨b, 4, none⟩ = some (.int .i64 c.l) ∧ v'.cell? ⟨b, 5, none⟩ = some (.int .i64 c.s) ∧ v'.cell? ⟨b, 6, none⟩ = some (.int .u64 c.v) ∧ v'.cell? ⟨b, 7, none⟩ = some (.int .i64 c.d0) ∧ v'.cell? ⟨b, 8, none⟩ = some (.int .i64 c.d1) ∧ v'.cell? ⟨b, 9, none⟩ = some (.int .i64 c.d2) ∧ v'.cell? ⟨b, 10, none⟩ = some (.int .i64 c.d3) ∧ v'.cell? ⟨b, 11, none⟩ = some (.int .i64 c.d4) ∧ v'.cell? ⟨b, 12, none⟩ = some (.int .i64 c.m)) (first | go_keep | fail "KEEP")
    (first
      | (go_at_call 27; refine Calls.mono (HM.out _ (by first | exact Below.refl _ _ | exact (Below.refl _ _).drew)) ?_; rintro e w5 ⟨⟨G, hG, rfl, hR⟩, hb5⟩; have HB5 : Hid (Below w.heap.size w w5) := (by first | exact hb5 | exact (Below.refl _ _).drew.trans hb5); clear hb5; have HG : Hid (w.heap.size ≤ G) := hG; have HR : Hid (IRow w5 G 21 mp) := hR; clear hG hR; have HF5 : Hid (FObjC w5 b V.vb L.mb node c t) := HST.out.obj.later HB5.out; have f0 := HF5.out.c0; have f3 := HF5.out.c3; have f4 := HF5.out.c4; have f5 := HF5.out.c5; have f6 := HF5.out.c6; have f7 := HF5.out.c7; have f8 := HF5.out.c8; have f9 := HF5.out.c9; have f10 := HF5.out.c10; have f11 := HF5.out.c11; have f12 := HF5.out.c12))
  all_goals clear f0 f3 f4 f5 f6 f7 f8 f9 f10 f11

  all_goals
    by_cases hm : 0 ≤ c.m
    · have HMM : Hid (0 ≤ c.m) := hm
      go_wp2_with (first
        | (at_builtin; refine wpList_append_own_at _ rfl _ _ 63 rfl w.heap.size 3 i0 (.int .i64 0) 1 8 Tryz.underlying63 hi0 hz0 hz1 hz2 rfl (by decide) (.slice (some ⟨G, 0, none⟩) 21 21) 21 _ rfl ((map_row HR.out HG.out).alloc _) ⟨w5.heap.size, 0, none⟩ 1 1 [.int .i64 c.m] rfl rfl ?c1 ?c2 ?c3 ?c4 ?c5 ?_)
        | go_in)
      case c1 => exact cell_one_new _ _ _
      case c2 => intro u hu; simp at hu; subst hu; rfl
      case c3 => decide
      case c4 => decide
      case c5 => have := HB5.out.size; simp; omega
      intro v' w6 hown' hgrow _ _
      obtain ⟨G6, c6, rfl, hG6, hc6, hc6m, hI6⟩ := row_ints hown'
      have HI : Hid (IntsAt w6 (some ⟨G6, 0, none⟩) 22 (rowF mp c.m)) := hI6
      have HQQ : Hid (22 ≤ c6 ∧ c6 ≤ maxLen) := ⟨hc6, hc6m⟩
      have HB6 : Hid (Below w.heap.size w w6) := (HB5.out.alloc HB5.out.size _).grown hgrow (by have := HB5.out.size; simp; omega) (fun j h => by simp [Value.ownBlock] at h; have := HG.out; omega)
      clear hown' hgrow hG6 hc6 hc6m hI6
      go_wp2
      clear f12
      go_loopw [5, 6] (fun x i wr => ∃ j : Nat, j ≤ 22 ∧ x = .int .i64 (cntF (rowF mp c.m) j : Nat) ∧ i = .int .i64 j ∧ Hid (Below w6.heap.size w6 wr)) (fun _ i _ => 22 - (intOf i).toNat)
      case atStart => exact ⟨0, Nat.zero_le _, rfl, rfl, Below.refl _ _⟩
      case round =>
        obtain ⟨j, hj, rfl, rfl, HB⟩ := hrel
        have HBW : Hid (Below w.heap.size w wr) := HB6.out.trans (HB.out.mono HB6.out.size)
        have hcle := cntF_le (rowF mp c.m) j
        by_cases hlt : j < 22
        · have hjn : (j : Int) < 22 := by omega
          have hjc : (j : Int) ≤ (c6 : Int) := by have := HQQ.out; omega
          have HFr : Hid (FObjC wr b V.vb L.mb node c t) := HST.out.obj.later HBW.out
          have f0 := HFr.out.c0
          have f2 := HFr.out.c2
          have hir : IntsAt wr (some ⟨G6, 0, none⟩) 22 (rowF mp c.m) := HI.out.later (Nat.le_refl _) HB.out
          have HIr : Hid (IntsAt wr (some ⟨G6, 0, none⟩) 22 (rowF mp c.m)) := hir
          have x1 : wr.cell? ⟨G6, j, none⟩ = some (.int .i64 (rowF mp c.m j)) := by
            rcases hir with e | ⟨b', o', e, _, hc⟩
            · omega
            · cases e
              have := hc j hlt
              rw [Nat.zero_add] at this
              exact this
          clear hir
          by_cases hn : rowF mp c.m j < 0
          · have hcn := cntF_no hn
            obtain ⟨kc, hkc⟩ : ∃ kc, cntF (rowF mp c.m) j = kc := ⟨_, rfl⟩
            obtain ⟨X, hX⟩ : ∃ X, rowF mp c.m j = X := ⟨_, rfl⟩
            rw [hX] at hn x1
            rw [hkc] at hcn hcle
            have HCN : Hid (cntF (rowF mp c.m) (j + 1) = kc) := hcn
            have HKC : Hid (cntF (rowF mp c.m) j = kc) := hkc
            clear hcn hX f0 f2
            rw [hkc]
            clear hkc
            go_wp2
            go_roundw
            case rel => exact ⟨j + 1, by omega, by rw [HCN.out], by go_num, HB⟩
            case measure => simp [intOf]; omega
          · have hcn := cntF_yes (f := rowF mp c.m) (j := j) (by omega)
            have HNI : Hid (namedI (rowF mp c.m) j (rowF mp c.m j) = false) := row_inj HFI.out (n := 22) (by omega) hlt (by omega)
            have hown := row_own HFI.out (j := j) (by omega)
            have HOC : Hid (∀ w1, Below wr.heap.size wr w1 → Calls Tryz.prog 28 #[.pointer (some ⟨V.vb, 0, none⟩), .int .i64 (rowF mp c.m j)] w1 fun e w' => e = .returned (.tuple #[.int .i64 node, .int .i64 0]) ∧ Below w1.heap.size w1 w') := fun w1 hb => HOW.out w1 _ (HBW.out.trans (hb.mono HBW.out.size)) (by omega) hown.1 hown.2
            have HHC : Hid (∀ w1, Below wr.heap.size wr w1 → Calls Tryz.prog 29 #[.slice (some ⟨G6, 0, none⟩) j c6, .int .i64 (rowF mp c.m j)] w1 fun e w' => e = .returned (.bool false) ∧ w' = w1) := fun w1 hb => by
              have hx := has_out (some ⟨G6, 0, none⟩) j c6 (rowF mp c.m) (rowF mp c.m j) w1 (by
                rcases HIr.out.later (Nat.le_refl _) hb with e | ⟨b', o', e, hbl, hc⟩
                · omega
                · exact .inr ⟨b', o', e, hbl, fun i hi => hc i (by omega)⟩) (by omega)
              rw [HNI.out] at hx
              exact hx
            obtain ⟨kc, hkc⟩ : ∃ kc, cntF (rowF mp c.m) j = kc := ⟨_, rfl⟩
            obtain ⟨X, hX⟩ : ∃ X, rowF mp c.m j = X := ⟨_, rfl⟩
            rw [hX] at hn x1 HOC HHC
            rw [hkc] at hcn hcle
            have HCN : Hid (cntF (rowF mp c.m) (j + 1) = kc + 1) := hcn
            rw [hkc]
            clear hcn hX hkc hown
            go_wp2
            go_region_held3 (fun v' => v'.cell? ⟨b, 0, none⟩ = some (.pointer (some ⟨V.vb, 0, none⟩)) ∧ v'.cell? ⟨G6, j, none⟩ = some (.int .i64 X)) (first | go_keep | fail "KEEP3")
              (first
                | (go_at_call 28; refine Calls.mono (HOC.out _ (by first | exact Below.refl _ _ | exact (Below.refl _ _).drew)) ?_; rintro e w7 ⟨rfl, hb7⟩; have HB7 : Hid (Below wr.heap.size wr w7) := (by first | exact hb7 | exact (Below.refl _ _).drew.trans hb7); clear hb7; have f0 : w7.cell? ⟨b, 0, none⟩ = some (.pointer (some ⟨V.vb, 0, none⟩)) := (HFr.out.later HB7.out).c0; have f2 : w7.cell? ⟨b, 2, none⟩ = some (.int .i64 node) := (HFr.out.later HB7.out).c2; have x1 : w7.cell? ⟨G6, j, none⟩ = some (.int .i64 X) := (World.cell?_of_block (a := ⟨G6, j, none⟩) (HB7.out.block _ (World.block_lt_of_cell? wr ⟨G6, j, none⟩ x1))).trans x1))
            all_goals
              go_wp2
              go_region_held3 (fun v' => v'.cell? ⟨b, 2, none⟩ = some (.int .i64 node) ∧ v'.cell? ⟨G6, j, none⟩ = some (.int .i64 X)) (first | go_keep | fail "KEEP4")
                (first
                  | (go_at_call 29; refine Calls.mono (HHC.out _ (by first | exact HB7.out | exact HB7.out.drew)) ?_; rintro e w8 ⟨rfl, rfl⟩))
            all_goals
              have HB8 : Hid (Below wr.heap.size wr w7) := HB7.out
              clear x1 f0 f2
              go_wp2
              go_roundw
              case rel => exact ⟨j + 1, by omega, by rw [HCN.out]; go_num, by go_num, HB.out.trans ((by first | exact HB7.out.mono HB.out.size | exact (HB7.out.mono HB.out.size).drew))⟩
              case measure => simp [intOf]; omega
        · have hjn : ¬ (j : Int) < 22 := by omega
          obtain rfl : j = 22 := by omega
          have hco : cntF (rowF mp c.m) 22 = (ownL mp c.m).length := cntF_own mp c.m 22 (by have := HFI.out.mrng; omega)
          rw [hco]
          go_wp2
          go_ret
          exact ⟨rfl, HBW.out⟩
    · have hm1 : ¬ 0 ≤ c.m := hm
      have HI : Hid (IntsAt w5 (some ⟨G, 0, none⟩) 21 (rowF mp c.m)) := .inr ⟨G, 0, rfl, HR.out.lt, fun i hi => by rw [Nat.zero_add, HR.out.cell i hi]; unfold rowF; rw [if_pos hi]⟩
      have HQQ : Hid ((21 : Nat) ≤ 21 ∧ (21 : Nat) ≤ maxLen) := ⟨by omega, by decide⟩
      have HB6 : Hid (Below w.heap.size w w5) := HB5
      go_wp2
      clear f12
      go_loopw [5, 6] (fun x i wr => ∃ j : Nat, j ≤ 21 ∧ x = .int .i64 (cntF (rowF mp c.m) j : Nat) ∧ i = .int .i64 j ∧ Hid (Below w5.heap.size w5 wr)) (fun _ i _ => 21 - (intOf i).toNat)
      case atStart => exact ⟨0, Nat.zero_le _, rfl, rfl, Below.refl _ _⟩
      case round =>
        obtain ⟨j, hj, rfl, rfl, HB⟩ := hrel
        have HBW : Hid (Below w.heap.size w wr) := HB6.out.trans (HB.out.mono HB6.out.size)
        have hcle := cntF_le (rowF mp c.m) j
        by_cases hlt : j < 21
        · have hjn : (j : Int) < 21 := by omega
          have hjc : (j : Int) ≤ (21 : Int) := by have := HQQ.out; omega
          have HFr : Hid (FObjC wr b V.vb L.mb node c t) := HST.out.obj.later HBW.out
          have f0 := HFr.out.c0
          have f2 := HFr.out.c2
          have hir : IntsAt wr (some ⟨G, 0, none⟩) 21 (rowF mp c.m) := HI.out.later (Nat.le_refl _) HB.out
          have HIr : Hid (IntsAt wr (some ⟨G, 0, none⟩) 21 (rowF mp c.m)) := hir
          have x1 : wr.cell? ⟨G, j, none⟩ = some (.int .i64 (rowF mp c.m j)) := by
            rcases hir with e | ⟨b', o', e, _, hc⟩
            · omega
            · cases e
              have := hc j hlt
              rw [Nat.zero_add] at this
              exact this
          clear hir
          by_cases hn : rowF mp c.m j < 0
          · have hcn := cntF_no hn
            obtain ⟨kc, hkc⟩ : ∃ kc, cntF (rowF mp c.m) j = kc := ⟨_, rfl⟩
            obtain ⟨X, hX⟩ : ∃ X, rowF mp c.m j = X := ⟨_, rfl⟩
            rw [hX] at hn x1
            rw [hkc] at hcn hcle
            have HCN : Hid (cntF (rowF mp c.m) (j + 1) = kc) := hcn
            have HKC : Hid (cntF (rowF mp c.m) j = kc) := hkc
            clear hcn hX f0 f2
            rw [hkc]
            clear hkc
            go_wp2
            go_roundw
            case rel => exact ⟨j + 1, by omega, by rw [HCN.out], by go_num, HB⟩
            case measure => simp [intOf]; omega
          · have hcn := cntF_yes (f := rowF mp c.m) (j := j) (by omega)
            have HNI : Hid (namedI (rowF mp c.m) j (rowF mp c.m j) = false) := row_inj HFI.out (n := 21) (by omega) hlt (by omega)
            have hown := row_own HFI.out (j := j) (by omega)
            have HOC : Hid (∀ w1, Below wr.heap.size wr w1 → Calls Tryz.prog 28 #[.pointer (some ⟨V.vb, 0, none⟩), .int .i64 (rowF mp c.m j)] w1 fun e w' => e = .returned (.tuple #[.int .i64 node, .int .i64 0]) ∧ Below w1.heap.size w1 w') := fun w1 hb => HOW.out w1 _ (HBW.out.trans (hb.mono HBW.out.size)) (by omega) hown.1 hown.2
            have HHC : Hid (∀ w1, Below wr.heap.size wr w1 → Calls Tryz.prog 29 #[.slice (some ⟨G, 0, none⟩) j 21, .int .i64 (rowF mp c.m j)] w1 fun e w' => e = .returned (.bool false) ∧ w' = w1) := fun w1 hb => by
              have hx := has_out (some ⟨G, 0, none⟩) j 21 (rowF mp c.m) (rowF mp c.m j) w1 (by
                rcases HIr.out.later (Nat.le_refl _) hb with e | ⟨b', o', e, hbl, hc⟩
                · omega
                · exact .inr ⟨b', o', e, hbl, fun i hi => hc i (by omega)⟩) (by omega)
              rw [HNI.out] at hx
              exact hx
            obtain ⟨kc, hkc⟩ : ∃ kc, cntF (rowF mp c.m) j = kc := ⟨_, rfl⟩
            obtain ⟨X, hX⟩ : ∃ X, rowF mp c.m j = X := ⟨_, rfl⟩
            rw [hX] at hn x1 HOC HHC
            rw [hkc] at hcn hcle
            have HCN : Hid (cntF (rowF mp c.m) (j + 1) = kc + 1) := hcn
            rw [hkc]
            clear hcn hX hkc hown
            go_wp2
            go_region_held3 (fun v' => v'.cell? ⟨b, 0, none⟩ = some (.pointer (some ⟨V.vb, 0, none⟩)) ∧ v'.cell? ⟨G, j, none⟩ = some (.int .i64 X)) (first | go_keep | fail "KEEP3")
              (first
                | (go_at_call 28; refine Calls.mono (HOC.out _ (by first | exact Below.refl _ _ | exact (Below.refl _ _).drew)) ?_; rintro e w7 ⟨rfl, hb7⟩; have HB7 : Hid (Below wr.heap.size wr w7) := (by first | exact hb7 | exact (Below.refl _ _).drew.trans hb7); clear hb7; have f0 : w7.cell? ⟨b, 0, none⟩ = some (.pointer (some ⟨V.vb, 0, none⟩)) := (HFr.out.later HB7.out).c0; have f2 : w7.cell? ⟨b, 2, none⟩ = some (.int .i64 node) := (HFr.out.later HB7.out).c2; have x1 : w7.cell? ⟨G, j, none⟩ = some (.int .i64 X) := (World.cell?_of_block (a := ⟨G, j, none⟩) (HB7.out.block _ (World.block_lt_of_cell? wr ⟨G, j, none⟩ x1))).trans x1))
            all_goals
              go_wp2
              go_region_held3 (fun v' => v'.cell? ⟨b, 2, none⟩ = some (.int .i64 node) ∧ v'.cell? ⟨G, j, none⟩ = some (.int .i64 X)) (first | go_keep | fail "KEEP4")
                (first
                  | (go_at_call 29; refine Calls.mono (HHC.out _ (by first | exact HB7.out | exact HB7.out.drew)) ?_; rintro e w8 ⟨rfl, rfl⟩))
            all_goals
              have HB8 : Hid (Below wr.heap.size wr w7) := HB7.out
              clear x1 f0 f2
              go_wp2
              go_roundw
              case rel => exact ⟨j + 1, by omega, by rw [HCN.out]; go_num, by go_num, HB.out.trans ((by first | exact HB7.out.mono HB.out.size | exact (HB7.out.mono HB.out.size).drew))⟩
              case measure => simp [intOf]; omega
        · have hjn : ¬ (j : Int) < 21 := by omega
          obtain rfl : j = 21 := by omega
          have hco : cntF (rowF mp c.m) 21 = (ownL mp c.m).length := cntF_own mp c.m 21 (by have := HFI.out.mrng; omega)
          rw [hco]
          go_wp2
          go_ret
          exact ⟨rfl, HBW.out⟩
theorem own_any (b : Nat) (V : VLay) (Sv : Vw) (L : Lay) (M : Mem) (q : Nat) (node : Int) (c : Crd) (t : ByteArray) (w : World) (h : FSt w b V Sv L M q node c t) (n0 : 0 ≤ node) (n1 : node < 24) :
    Calls Tryz.prog 12 #[.pointer (some ⟨b, 0, none⟩)] w fun e w' => e = .returned (.int .i64 ((ownL (mapF M.read c.d0 c.d1 c.d2 c.d3 c.d4 c.m) c.m).length : Nat)) ∧ Below w.heap.size w w' := own_file b V Sv L M q node c t w ⟨h.rest, h.obj, h.ok.file⟩ n0 n1

end Go.Proofs.YtdjnkibnnjobpaaGreat
