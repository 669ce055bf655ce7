/- Contracts of Write and Cut: what becomes of a file. -/
import Derived.Test.YtdjnkibnnjobpaaBdL
namespace Go.Proofs.Ytdjnkibnnjobpaa
open Go.RowKit Go.Maps Go.ChangeMaps

theorem pos_last (at_ E : Nat) (h : at_ < E) : posP at_ E (pcN at_ E) = E := by
  unfold posP pcN pcHi
  rw [if_pos h, if_neg (by omega)]
  omega
/-- What Write leaves. -/
def WriteTo (V : VLay) (S : Vw) (N : Nat) (L : Lay) (M : Mem) (node k l s v d0 d1 d2 d3 d4 m : Int) (at_ : Nat) (data : ByteArray) (w w' : World) (e : Ending) : Prop :=
  ∃ S' N', On w' V S' N' L M ∧ N' ≤ N + 750 ∧ Only V.blocks w w' ∧ S'.away = S.away ∧ S'.awayN = S.awayN ∧
    ((∃ e0 e1 e2 e3 e4 mr, e = .returned (.tuple #[.agg #[.int .i64 k, .int .i64 l, .int .i64 (max s ((at_ + data.size : Nat) : Int)), .int .u64 v, .int .i64 e0, .int .i64 e1, .int .i64 e2, .int .i64 e3, .int .i64 e4, .int .i64 mr], .int .i64 0]) ∧ FileIs (S'.word M) node e0 e1 e2 e3 e4 mr ∧ Keeps (S.word M) (S'.word M) node ∧
      (∀ i, i < 2688 → fileB (S'.word M) (mapF (S'.word M) e0 e1 e2 e3 e4 mr) i = if at_ ≤ i ∧ i < at_ + data.size then Wd.bAt data (i - at_) else fileB (S.word M) (mapF (S.word M) d0 d1 d2 d3 d4 m) i) ∧
      (∀ i, i < 21 → (mapF (S'.word M) e0 e1 e2 e3 e4 mr i = -1 ↔ mapF (S.word M) d0 d1 d2 d3 d4 m i = -1 ∧ ¬ (at_ / 128 ≤ i ∧ i < at_ / 128 + pcN at_ (at_ + data.size))))) ∨
     e = .returned (.tuple #[.agg #[.int .i64 0, .int .i64 0, .int .i64 0, .int .u64 0, .int .i64 0, .int .i64 0, .int .i64 0, .int .i64 0, .int .i64 0, .int .i64 0], .int .i64 9]) ∧ nFresh S M 96 ≤ 21)
theorem fileB_map {W : Int → Int} {mp mp' : Nat → Int} (h : ∀ i, i < 21 → mp i = mp' i) (i : Nat) (hi : i < 2688) : fileB W mp i = fileB W mp' i := by
  unfold fileB
  rw [h (i / 128) (by omega)]
theorem not_nil {data : ByteArray} (h : 0 < data.size) : ¬ data.toList = [] := fun e => by
  rw [ByteArray.toList_eq] at e
  have h2 : data.data.toList.length = 0 := by rw [e]; rfl
  rw [Array.length_toList] at h2
  have h3 : data.size = data.data.size := rfl
  omega
theorem max_int (a b : Int) : (if b > a then b else a) = max a b := by omega

set_option maxHeartbeats 4000000 in
set_option maxRecDepth 100000 in
theorem bwrite_any (V : VLay) (S : Vw) (N : Nat) (L : Lay) (M : Mem) (node k l s v d0 d1 d2 d3 d4 m : Int) (at_ : Nat) (data : ByteArray) (w : World) (h : On w V S N L M) (hN : N < 500000000) (n0 : 0 ≤ node) (n1 : node < 24) (hF : FileIs (S.word M) node d0 d1 d2 d3 d4 m) (s0 : 0 ≤ s) (s1 : s ≤ 2688) (hd0 : 0 < data.size) (hd : data.size ≤ 400) (hE : at_ + data.size ≤ 2688) :
    Calls Try.prog 18 #[.pointer (some ⟨V.vb, 0, none⟩), .int .i64 node, .agg #[.int .i64 k, .int .i64 l, .int .i64 s, .int .u64 v, .int .i64 d0, .int .i64 d1, .int .i64 d2, .int .i64 d3, .int .i64 d4, .int .i64 m], .int .i64 at_, .string data] w fun e w' => WriteTo V S N L M node k l s v d0 d1 d2 d3 d4 m at_ data w w' e := by
  have H : Hid (On w V S N L M) := h
  have HVL : Hid (∀ j ∈ V.all, j < w.heap.size) := h.view.all_lt
  have HLL : Hid (∀ j ∈ L.blocks, j < w.heap.size) := h.mem.all_lt
  have HFI : Hid (FileIs (S.word M) node d0 d1 d2 d3 d4 m) := hF
  have hmr := hF.1.mrng
  obtain ⟨m0, m1⟩ := hmr
  have HM : Hid (∀ w1, Below w.heap.size w w1 → Calls Try.prog 11 #[.pointer (some ⟨V.vb, 0, none⟩), .agg #[.int .i64 k, .int .i64 l, .int .i64 s, .int .u64 v, .int .i64 d0, .int .i64 d1, .int .i64 d2, .int .i64 d3, .int .i64 d4, .int .i64 m]] w1 fun e w' => (∃ g, w1.heap.size ≤ g ∧ e = .returned (.tuple #[.slice (some ⟨g, 0, none⟩) 21 21, .int .i64 0]) ∧ IRow w' g 21 (mapF (S.word M) d0 d1 d2 d3 d4 m)) ∧ Below w1.heap.size w1 w') := fun w1 hb => by
    refine (map_any V S N L M k l s v d0 d1 d2 d3 d4 m w1 (h.later hb) m0 m1 true ⟨fun _ => hF.may, fun _ => rfl⟩).mono ?_
    rintro e w' ⟨h1, h2⟩
    rcases h1 with ⟨_, h1⟩ | ⟨h1, _⟩
    · exact ⟨h1, h2⟩
    · cases h1
  have HR : Hid (∀ w1, Below w.heap.size w w1 → Calls Try.prog 33 #[.pointer (some ⟨V.vb, 0, none⟩), .int .i64 node] w1 fun e w' => e = .returned (.bool false) ∧ Below w1.heap.size w1 w') := fun w1 hb => refused_no V S N L M node w1 (H.out.later hb) n0 n1
  have HCN : Hid (w.heap.size ∉ V.blocks) := fun hm => absurd (HVL.out _ (V.blocks_all _ hm)) (Nat.lt_irrefl _)
  have HZN : Hid (w.heap.size + 1 ∉ V.blocks) := fun hm => absurd (HVL.out _ (V.blocks_all _ hm)) (by omega)
  have hdne : ¬ data.toList = [] := not_nil hd0
  have hdie : data.toList.isEmpty = false := by simpa using hdne
  have hat : ¬ (2688 : Int) - (data.size : Int) < (at_ : Int) := by omega
  have hs1 : ¬ (2688 : Int) < s := by omega
  have hd400 : ¬ (400 : Int) < (data.size : Int) := by omega
  have hmx : ∃ x : Int, max s ((at_ : Int) + (data.size : Int)) = x ∧ max s (((at_ + data.size : Nat)) : Int) = x ∧ 0 ≤ x ∧ x ≤ 2688 := ⟨_, rfl, by omega, by omega, by omega⟩
  obtain ⟨sz, hsz, hsz', hsz0, hsz1⟩ := hmx
  have HSZ : Hid (max s (((at_ + data.size : Nat)) : Int) = sz) := hsz'
  clear h hF hsz'
  go_enter Try.func18, Try.ntmps18
  go_wp2_with fail
  obtain ⟨X, hX, HXS, HXB, HC, HZ⟩ := two_cards w k l s v d0 d1 d2 d3 d4 m
  rw [hX]
  clear hX
  refine Calls.mono (HR.out _ HXB.out) ?_
  rintro e w1 ⟨rfl, hb1⟩
  have HB1 : Hid (Below w.heap.size w w1) := HXB.out.trans (hb1.mono (by have := HXS.out; omega))
  have HC1 : Hid (CardAt w1 w.heap.size k l s v d0 d1 d2 d3 d4 m) := HC.out.later hb1
  have HZ1 : Hid (CardAt w1 (w.heap.size + 1) 0 0 0 0 0 0 0 0 0 0) := HZ.out.later hb1
  have hw1 : w.heap.size + 2 ≤ w1.heap.size := by have := HXS.out; have := hb1.size; omega
  clear hb1
  obtain ⟨c0, c1, c2, c3, c4, c5, c6, c7, c8, c9⟩ := HC1.out.ten
  go_wp2_with fail
  refine Calls.mono (HM.out _ HB1.out) ?_
  rintro e w2 ⟨⟨G, hGw, rfl, hR⟩, hb2⟩
  have HB2 : Hid (Below w.heap.size w w2) := HB1.out.trans (hb2.mono HB1.out.size)
  have HC2 : Hid (CardAt w2 w.heap.size k l s v d0 d1 d2 d3 d4 m) := HC1.out.later hb2
  have HZ2 : Hid (CardAt w2 (w.heap.size + 1) 0 0 0 0 0 0 0 0 0 0) := HZ1.out.later hb2
  have HG2 : Hid (w.heap.size + 2 ≤ G) := by show _ ≤ _; omega
  have HGV : Hid (G ∉ V.all) := fun hm => by have := HVL.out _ hm; omega
  have HGL : Hid (G ∉ L.blocks) := fun hm => by have := HLL.out _ hm; omega
  have HFL : Hid (Calls Try.prog 40 #[.pointer (some ⟨V.vb, 0, none⟩), .int .i64 node, .slice (some ⟨G, 0, none⟩) 21 21, .int .i64 at_, .string data] w2 fun e w' => FillTo V S N L M node (mapF (S.word M) d0 d1 d2 d3 d4 m) m G at_ data w2 w' e) :=
    fill_any V S N L M node _ m G at_ data w2 (H.out.later HB2.out) (by omega) n0 n1 hR HGV.out HGL.out HFI.out.1 hd hE
  clear c0 c1 c2 c3 c4 c5 c6 c7 c8 c9 hR hb2 hGw hw1
  go_wp2_with fail
  refine Calls.mono (Hid.out HFL) ?_
  rintro e w3 ⟨er, S1, N1, rfl, h3, hN3, ho3, ha3, hb3, hcase⟩
  have H3 : Hid (On w3 V S1 N1 L M) := h3
  have HA3 : Hid (S1.away = S.away ∧ S1.awayN = S.awayN) := ⟨ha3, hb3⟩
  have HGO : Hid (w.heap.size ∉ G :: V.blocks ∧ w.heap.size + 1 ∉ G :: V.blocks) := ⟨fun hm => by
    rcases List.mem_cons.1 hm with e | e
    · have := HG2.out; omega
    · exact HCN.out e, fun hm => by
    rcases List.mem_cons.1 hm with e | e
    · have := HG2.out; omega
    · exact HZN.out e⟩
  have HC3 : Hid (CardAt w3 w.heap.size k l s v d0 d1 d2 d3 d4 m) := HC2.out.only ho3 HGO.out.1
  have HZ3 : Hid (CardAt w3 (w.heap.size + 1) 0 0 0 0 0 0 0 0 0 0) := HZ2.out.only ho3 HGO.out.2
  have HO3 : Hid (Only V.blocks w w3) := by
    refine ⟨ho3.os.trans HB2.out.os, ho3.tape.trans HB2.out.tape, ho3.output.trans HB2.out.output, Nat.le_trans HB2.out.size ho3.size, fun j hj hn => ?_⟩
    rw [ho3.block j (by have := HB2.out.size; omega) (fun hm => by
      rcases List.mem_cons.1 hm with e | e
      · have := HG2.out; omega
      · exact hn e), HB2.out.block j hj]
  have HCASE : Hid _ := hcase
  clear h3 ho3 ha3 hb3 hcase
  rcases HCASE.out with ⟨rfl, mp1, hR3, hfl⟩ | ⟨rfl, hnf⟩
  · have HR3 : Hid (IRow w3 G 21 mp1) := hR3
    have HFD : Hid (Filled S M node (mapF (S.word M) d0 d1 d2 d3 d4 m) m at_ (at_ + data.size) data (pcN at_ (at_ + data.size)) (pcN at_ (at_ + data.size)) S1 mp1) := hfl
    clear HCASE hR3 hfl
    obtain ⟨c0, c1, c2, c3, c4, c5, c6, c7, c8, c9⟩ := HC3.out.ten
    have cf := HC3.out.frozen
    have HCk : Hid (Only [w.heap.size] w3 (w3.setCell ⟨w.heap.size, 2, none⟩ (.int .i64 sz))) := (Only.refl _ _).setCell (p := ⟨w.heap.size, 2, none⟩) (by simp) _
    have HONk : Hid (On (w3.setCell ⟨w.heap.size, 2, none⟩ (.int .i64 sz)) V S1 N1 L M) := H3.out.fresh HCk.out (B := w.heap.size) (by simp) HVL.out HLL.out
    have HOk : Hid (Only V.blocks w (w3.setCell ⟨w.heap.size, 2, none⟩ (.int .i64 sz))) := HO3.out.fresh HCk.out (by simp)
    have HZk : Hid (CardAt (w3.setCell ⟨w.heap.size, 2, none⟩ (.int .i64 sz)) (w.heap.size + 1) 0 0 0 0 0 0 0 0 0 0) := HZ3.out.only HCk.out (by simp)
    have HRk : Hid (IRow (w3.setCell ⟨w.heap.size, 2, none⟩ (.int .i64 sz)) G 21 mp1) := HR3.out.only HCk.out (by have := HG2.out; simp; omega)
    have HK : Hid (Calls Try.prog 15 #[.pointer (some ⟨V.vb, 0, none⟩), .int .i64 node, .agg #[.int .i64 k, .int .i64 l, .int .i64 sz, .int .u64 v, .int .i64 d0, .int .i64 d1, .int .i64 d2, .int .i64 d3, .int .i64 d4, .int .i64 m], .slice (some ⟨G, 0, none⟩) 21 21] (w3.setCell ⟨w.heap.size, 2, none⟩ (.int .i64 sz)) fun e w' => ∃ mr er S' N', e = .returned (.tuple #[keptV er k l sz v mp1 mr, .int .i64 er]) ∧ KMore S1 M node m mp1 mr er S' ∧ On w' V S' N' L M ∧ N' ≤ N1 + 33 ∧ Only V.blocks (w3.setCell ⟨w.heap.size, 2, none⟩ (.int .i64 sz)) w') :=
      keep_any V S1 N1 L M node k l sz v d0 d1 d2 d3 d4 m G 0 21 mp1 _ HONk.out (by omega) n0 n1 m0 m1 (by have := HRk.out.ints 0 21 (by omega); simpa using this) HGV.out (by omega) HFD.out.fil.rng (fun _ hm => by have := (HFD.out.fil.mown hm).1; omega)
    go_wp2_with fail
    refine Calls.mono (Hid.out HK) ?_
    rintro e w5 ⟨mr, er, S2, N2, rfl, hk, h5, hN5, ho5⟩
    have HKM : Hid (KMore S1 M node m mp1 mr er S2) := hk
    have H5 : Hid (On w5 V S2 N2 L M) := h5
    have HZ5 : Hid (CardAt w5 (w.heap.size + 1) 0 0 0 0 0 0 0 0 0 0) := HZk.out.only ho5 HZN.out
    have HO5 : Hid (Only V.blocks w w5) := HOk.out.trans ho5
    have her := hk.er
    clear hk h5 ho5
    obtain ⟨z0, z1, z2, z3, z4, z5, z6, z7, z8, z9⟩ := HZ5.out.ten
    have zf := HZ5.out.frozen
    rcases her with rfl | rfl
    · obtain ⟨g0, hg0⟩ : ∃ x, mp1 0 = x := ⟨_, rfl⟩
      obtain ⟨g1, hg1⟩ : ∃ x, mp1 1 = x := ⟨_, rfl⟩
      obtain ⟨g2, hg2⟩ : ∃ x, mp1 2 = x := ⟨_, rfl⟩
      obtain ⟨g3, hg3⟩ : ∃ x, mp1 3 = x := ⟨_, rfl⟩
      obtain ⟨g4, hg4⟩ : ∃ x, mp1 4 = x := ⟨_, rfl⟩
      have hkv : keptV 0 k l (sz) v mp1 mr = .agg #[.int .i64 k, .int .i64 l, .int .i64 (sz), .int .u64 v, .int .i64 g0, .int .i64 g1, .int .i64 g2, .int .i64 g3, .int .i64 g4, .int .i64 mr] := by
        unfold keptV
        rw [if_pos rfl, hg0, hg1, hg2, hg3, hg4]
      rw [hkv]
      have HG : Hid (mp1 0 = g0 ∧ mp1 1 = g1 ∧ mp1 2 = g2 ∧ mp1 3 = g3 ∧ mp1 4 = g4) := ⟨hg0, hg1, hg2, hg3, hg4⟩
      clear hkv hg0 hg1 hg2 hg3 hg4
      go_wp2
      refine bodyPost_ret (v := .tuple #[.agg #[.int .i64 k, .int .i64 l, .int .i64 (sz), .int .u64 v, .int .i64 g0, .int .i64 g1, .int .i64 g2, .int .i64 g3, .int .i64 g4, .int .i64 mr], .int .i64 0]) (by simp [results, Try.results18, go_sem, z0, z1, z2, z3, z4, z5, z6, z7, z8, z9]) rfl ?_
      have hkf := kept_file HFD.out.fil HKM.out n0
      obtain ⟨e0, e1, e2, e3, e4⟩ := HG.out
      rw [e0, e1, e2, e3, e4] at hkf
      have hby : ∀ i, i < 2688 → fileB (S2.word M) (mapF (S2.word M) g0 g1 g2 g3 g4 mr) i = if at_ ≤ i ∧ i < at_ + data.size then Wd.bAt data (i - at_) else fileB (S.word M) (mapF (S.word M) d0 d1 d2 d3 d4 m) i := fun i hi => by
        rw [fileB_map hkf.map i hi, hkf.bytes i hi, HFD.out.bytes i hi, pos_last _ _ (by omega)]
      have hho : ∀ i, i < 21 → (mapF (S2.word M) g0 g1 g2 g3 g4 mr i = -1 ↔ mapF (S.word M) d0 d1 d2 d3 d4 m i = -1 ∧ ¬ (at_ / 128 ≤ i ∧ i < at_ / 128 + pcN at_ (at_ + data.size))) := fun i hi => by
        rw [hkf.map i hi]; exact HFD.out.holes i hi
      refine ⟨S2, N2, H5.out.fresh (X := [w.heap.size + 1]) ?hF (B := w.heap.size) (by simp) HVL.out HLL.out, by omega, HO5.out.fresh (Y := [w.heap.size + 1]) ?hF (by simp), hkf.away.1.trans HA3.out.1, hkf.away.2.trans HA3.out.2, .inl ⟨g0, g1, g2, g3, g4, mr, by rw [HSZ.out], hkf.file, HFD.out.keeps.trans hkf.keeps, hby, hho⟩⟩
      case hF => exact (((((((((((Only.refl _ w5).setCell (p := ⟨w.heap.size + 1, 0, none⟩) (by simp) _).setCell (p := ⟨w.heap.size + 1, 1, none⟩) (by simp) _).setCell (p := ⟨w.heap.size + 1, 2, none⟩) (by simp) _).setCell (p := ⟨w.heap.size + 1, 3, none⟩) (by simp) _).setCell (p := ⟨w.heap.size + 1, 4, none⟩) (by simp) _).setCell (p := ⟨w.heap.size + 1, 5, none⟩) (by simp) _).setCell (p := ⟨w.heap.size + 1, 6, none⟩) (by simp) _).setCell (p := ⟨w.heap.size + 1, 7, none⟩) (by simp) _).setCell (p := ⟨w.heap.size + 1, 8, none⟩) (by simp) _).setCell (p := ⟨w.heap.size + 1, 9, none⟩) (by simp) _)
    · have hkv : keptV 9 k l (sz) v mp1 mr = .agg #[.int .i64 0, .int .i64 0, .int .i64 0, .int .u64 0, .int .i64 0, .int .i64 0, .int .i64 0, .int .i64 0, .int .i64 0, .int .i64 0] := by
        unfold keptV
        rw [if_neg (by decide)]
      rw [hkv]
      clear hkv
      go_wp2
      refine bodyPost_ret (v := .tuple #[.agg #[.int .i64 0, .int .i64 0, .int .i64 0, .int .u64 0, .int .i64 0, .int .i64 0, .int .i64 0, .int .i64 0, .int .i64 0, .int .i64 0], .int .i64 9]) (by simp [results, Try.results18, go_sem, z0, z1, z2, z3, z4, z5, z6, z7, z8, z9]) rfl ?_
      have hnf : nFresh S M 96 ≤ 21 := by
        have h1 := HFD.out.fresh
        rcases HKM.out with ⟨_, _, _, h, _⟩ | ⟨_, _, _, h, _⟩ | ⟨_, _, h, _⟩ | ⟨_, _, _, _, h, _⟩ | ⟨_, _, h, _⟩
        · omega
        · omega
        · omega
        · rw [nFresh_none 96 h] at h1
          have : pcN at_ (at_ + data.size) ≤ 21 := by unfold pcN pcHi; split <;> omega
          omega
        · omega
      have haw : S2.away = S1.away ∧ S2.awayN = S1.awayN := by
        rcases HKM.out with ⟨_, _, _, h, _⟩ | ⟨_, _, _, h, _⟩ | ⟨_, _, h, _⟩ | ⟨_, _, _, _, _, h⟩ | ⟨_, _, h, _⟩
        · omega
        · omega
        · omega
        · rw [h]; exact ⟨rfl, rfl⟩
        · omega
      refine ⟨S2, N2, H5.out.fresh (X := [w.heap.size + 1]) ?hF (B := w.heap.size) (by simp) HVL.out HLL.out, by omega, HO5.out.fresh (Y := [w.heap.size + 1]) ?hF (by simp), haw.1.trans HA3.out.1, haw.2.trans HA3.out.2, .inr ⟨rfl, hnf⟩⟩
      case hF => exact (((((((((((Only.refl _ w5).setCell (p := ⟨w.heap.size + 1, 0, none⟩) (by simp) _).setCell (p := ⟨w.heap.size + 1, 1, none⟩) (by simp) _).setCell (p := ⟨w.heap.size + 1, 2, none⟩) (by simp) _).setCell (p := ⟨w.heap.size + 1, 3, none⟩) (by simp) _).setCell (p := ⟨w.heap.size + 1, 4, none⟩) (by simp) _).setCell (p := ⟨w.heap.size + 1, 5, none⟩) (by simp) _).setCell (p := ⟨w.heap.size + 1, 6, none⟩) (by simp) _).setCell (p := ⟨w.heap.size + 1, 7, none⟩) (by simp) _).setCell (p := ⟨w.heap.size + 1, 8, none⟩) (by simp) _).setCell (p := ⟨w.heap.size + 1, 9, none⟩) (by simp) _)
  · have HNF : Hid (nFresh S M 96 ≤ 20) := hnf
    obtain ⟨z0, z1, z2, z3, z4, z5, z6, z7, z8, z9⟩ := HZ3.out.ten
    have zf := HZ3.out.frozen
    clear HCASE hnf
    go_wp2
    refine bodyPost_ret (v := .tuple #[.agg #[.int .i64 0, .int .i64 0, .int .i64 0, .int .u64 0, .int .i64 0, .int .i64 0, .int .i64 0, .int .i64 0, .int .i64 0, .int .i64 0], .int .i64 9]) (by simp [results, Try.results18, go_sem, z0, z1, z2, z3, z4, z5, z6, z7, z8, z9]) rfl ?_
    refine ⟨S1, N1, H3.out.fresh (X := [w.heap.size + 1]) ?hF (B := w.heap.size) (by simp) HVL.out HLL.out, by omega, HO3.out.fresh (Y := [w.heap.size + 1]) ?hF (by simp), HA3.out.1, HA3.out.2, .inr ⟨rfl, by have := HNF.out; omega⟩⟩
    case hF => exact (((((((((((Only.refl _ w3).setCell (p := ⟨w.heap.size + 1, 0, none⟩) (by simp) _).setCell (p := ⟨w.heap.size + 1, 1, none⟩) (by simp) _).setCell (p := ⟨w.heap.size + 1, 2, none⟩) (by simp) _).setCell (p := ⟨w.heap.size + 1, 3, none⟩) (by simp) _).setCell (p := ⟨w.heap.size + 1, 4, none⟩) (by simp) _).setCell (p := ⟨w.heap.size + 1, 5, none⟩) (by simp) _).setCell (p := ⟨w.heap.size + 1, 6, none⟩) (by simp) _).setCell (p := ⟨w.heap.size + 1, 7, none⟩) (by simp) _).setCell (p := ⟨w.heap.size + 1, 8, none⟩) (by simp) _).setCell (p := ⟨w.heap.size + 1, 9, none⟩) (by simp) _)

end Go.Proofs.Ytdjnkibnnjobpaa
