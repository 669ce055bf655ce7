/- Contracts of shorten: the bytes from one on are cut off. -/
import Derived.Test.YtdjnkibnnjobpaaBdJ
namespace Go.Proofs.Ytdjnkibnnjobpaa
open Go.RowKit Go.Maps Go.ChangeMaps

/-- What lies there when the blocks of the places from q on, ahead of h, are given back, and the bytes from a on, ahead of p, are 0. -/
structure Cuts (S : Vw) (M : Mem) (node : Int) (mp : Nat → Int) (mr : Int) (q h a p : Nat) (S' : Vw) (mp' : Nat → Int) : Prop where
  fil : Fil (S'.word M) node mp' mr
  keeps : Keeps (S.word M) (S'.word M) node
  more : mr ≠ -1 → ∀ i : Nat, i < 16 → S'.word M (1288 + 16 * mr + (i : Int)) = S.word M (1288 + 16 * mr + (i : Int))
  bytes : ∀ i, i < 2688 → fileB (S'.word M) mp' i = if 128 * q ≤ i ∧ i < 128 * h ∨ a ≤ i ∧ i < p then 0 else fileB (S.word M) mp i
  holes : ∀ i, i < 21 → (mp' i = -1 ↔ mp i = -1 ∨ q ≤ i ∧ i < h)
  away : S'.away = S.away ∧ S'.awayN = S.awayN
section
variable {S S' : Vw} {M : Mem} {node : Int} {mp mp' : Nat → Int} {mr : Int} {q h a p : Nat}
theorem cuts_zero (q a : Nat) (hF : Fil (S.word M) node mp mr) : Cuts S M node mp mr q q a a S mp :=
  ⟨hF, Keeps.refl _ _, fun _ _ _ => rfl, fun i _ => by rw [if_neg (by omega)], fun i _ => ⟨.inl, fun e => by omega⟩, rfl, rfl⟩
theorem hole_byte {W : Int → Int} {mp : Nat → Int} {i : Nat} (h : mp (i / 128) = -1) : fileB W mp i = 0 := by
  unfold fileB blkB
  rw [if_pos h]
theorem Cuts.skip (c : Cuts S M node mp mr q h a p S' mp') (hh : mp' h = -1) : Cuts S M node mp mr q (h + 1) a p S' mp' := by
  refine ⟨c.fil, c.keeps, c.more, fun i hi => ?_, fun i hi => ?_, c.away⟩
  · by_cases e : i / 128 = h
    · rw [hole_byte (by rw [e]; exact hh)]
      by_cases e2 : 128 * q ≤ i ∧ i < 128 * (h + 1) ∨ a ≤ i ∧ i < p
      · rw [if_pos e2]
      · have := c.bytes i hi
        rw [hole_byte (by rw [e]; exact hh)] at this
        rw [if_neg (by omega)] at this
        rw [if_neg e2]
        exact this
    · rw [c.bytes i hi]
      by_cases e3 : 128 * q ≤ i ∧ i < 128 * h ∨ a ≤ i ∧ i < p
      · rw [if_pos e3, if_pos (by omega)]
      · rw [if_neg e3, if_neg (by omega)]
  · have := c.holes i hi
    by_cases e : i = h
    · subst e
      constructor
      · intro x
        rcases this.1 x with y | y
        · exact .inl y
        · omega
      · intro _; exact hh
    · rw [this]
      constructor
      · rintro (x | x)
        · exact .inl x
        · exact .inr ⟨x.1, by omega⟩
      · rintro (x | x)
        · exact .inl x
        · exact .inr ⟨x.1, by omega⟩
theorem Cuts.drop (c : Cuts S M node mp mr q h a p S' mp') (hq : q ≤ h) (hh : h < 21) (hx : mp' h ≠ -1) (n0 : 0 ≤ node) : Cuts S M node mp mr q (h + 1) a p (S'.drop (mp' h)) (updN mp' h (-1)) := by
  have g := dropW S' M (mp' h)
  have r := c.fil.rng h hh
  have o := c.fil.own h hh hx
  refine ⟨c.fil.drop g hh hx n0, c.keeps.trans (Keeps.drop g o (by omega) r.2), fun hm i hi => ?_, fun i hi => ?_, fun i hi => ?_, c.away⟩
  · have e := (c.fil.mown hm).2 h hh
    have rm := c.fil.mrng
    rw [g.out _ (by omega)]
    exact c.more hm i hi
  · rw [bytes_drop c.fil g hh i hi, c.bytes i hi]
    by_cases e : i / 128 = h
    · rw [if_pos e, if_pos (by omega)]
    · rw [if_neg e]
      by_cases e3 : 128 * q ≤ i ∧ i < 128 * h ∨ a ≤ i ∧ i < p
      · rw [if_pos e3, if_pos (by omega)]
      · rw [if_neg e3, if_neg (by omega)]
  · have := c.holes i hi
    unfold updN
    by_cases e : i = h
    · rw [if_pos e]
      constructor
      · intro _; exact .inr (by omega)
      · intro _; rfl
    · rw [if_neg e, this]
      constructor
      · rintro (x | x)
        · exact .inl x
        · exact .inr ⟨x.1, by omega⟩
      · rintro (x | x)
        · exact .inl x
        · exact .inr ⟨x.1, by omega⟩
theorem Cuts.skipB (c : Cuts S M node mp mr q h a p S' mp') {P F T : Nat} (hp1 : p = 128 * P + F) (hFT : F < T) (hT : T ≤ 128) (hap : a ≤ p) (hh : mp' P = -1) : Cuts S M node mp mr q h a (128 * P + T) S' mp' := by
  refine ⟨c.fil, c.keeps, c.more, fun i hi => ?_, c.holes, c.away⟩
  have := c.bytes i hi
  by_cases e3 : 128 * q ≤ i ∧ i < 128 * h ∨ a ≤ i ∧ i < p
  · rw [this, if_pos e3, if_pos (by omega)]
  · by_cases e4 : a ≤ i ∧ i < 128 * P + T
    · rw [if_pos (.inr e4), hole_byte (by rw [show i / 128 = P by omega]; exact hh)]
    · rw [this, if_neg e3, if_neg (by omega)]
theorem Cuts.put (c : Cuts S M node mp mr q h a p S' mp') {P F T : Nat} {b : Int} (hP21 : P < 21) (hb : mp' P = b) (b0 : 0 ≤ b) (hp1 : p = 128 * P + F) (hFT : F < T) (hT : T ≤ 128) (hap : a ≤ p) :
    Cuts S M node mp mr q h a (128 * P + T) (S'.setB b (putRow (S'.word M) b F (Wd.mkB (fun _ => 0) (T - F)))) mp' := by
  subst hb
  have hx : mp' P ≠ -1 := by omega
  have r := c.fil.rng P hP21
  have g := setW S' M (mp' P) (putRow (S'.word M) (mp' P) F (Wd.mkB (fun _ => 0) (T - F)))
  have o := c.fil.own P hP21 hx
  have hs : (Wd.mkB (fun _ => 0) (T - F)).size = T - F := Wd.mkB_size _ _
  refine ⟨c.fil.set g b0, c.keeps.trans (Keeps.set g o b0 r.2), fun hm i hi => ?_, fun i hi => ?_, c.holes, c.away⟩
  · have e := (c.fil.mown hm).2 P hP21
    rw [g.out _ (by omega)]
    exact c.more hm i hi
  · rw [bytes_put c.fil g hP21 hx (by omega) i hi, c.bytes i hi, hs]
    by_cases e : 128 * P + F ≤ i ∧ i < 128 * P + F + (T - F)
    · rw [if_pos e, if_pos (by omega), Wd.bAt_mkB _ (fun _ => by omega) _ _ (by omega)]
    · rw [if_neg e]
      by_cases e3 : 128 * q ≤ i ∧ i < 128 * h ∨ a ≤ i ∧ i < p
      · rw [if_pos e3, if_pos (by omega)]
      · rw [if_neg e3, if_neg (by omega)]
end
/-- What shorten leaves. -/
def ShortTo (V : VLay) (S : Vw) (N : Nat) (L : Lay) (M : Mem) (node : Int) (mp : Nat → Int) (mr : Int) (G size : Nat) (w w' : World) (e : Ending) : Prop := ∃ S' N' mp', e = .returned (.int .i64 0) ∧ On w' V S' N' L M ∧ N' ≤ N + 400 ∧ Only (G :: V.blocks) w w' ∧ IRow w' G 21 mp' ∧ Cuts S M node mp mr ((size + 127) / 128) 21 size (posP size (128 * ((size + 127) / 128)) (pcN size (128 * ((size + 127) / 128)))) S' mp'

set_option maxHeartbeats 4000000 in
set_option maxRecDepth 100000 in
theorem shorten_any (V : VLay) (S : Vw) (N : Nat) (L : Lay) (M : Mem) (node : Int) (mp : Nat → Int) (mr : Int) (G size : Nat) (w : World) (h : On w V S N L M) (hN : N < 600000000) (n0 : 0 ≤ node) (hg : IRow w G 21 mp) (hGV : G ∉ V.all) (hGL : G ∉ L.blocks) (hF : Fil (S.word M) node mp mr) (hs : size ≤ 2688) :
    Calls Try.prog 41 #[.pointer (some ⟨V.vb, 0, none⟩), .slice (some ⟨G, 0, none⟩) 21 21, .int .i64 size] w fun e w' => ShortTo V S N L M node mp mr G size w w' e := by
  have H : Hid (On w V S N L M) := h
  have HGR : Hid (IRow w G 21 mp) := hg
  have HGV : Hid (G ∉ V.all) := hGV
  have HGL : Hid (G ∉ L.blocks) := hGL
  have HGN : Hid (G ∉ V.blocks) := fun hm => hGV (V.blocks_all _ hm)
  have HFI : Hid (Fil (S.word M) node mp mr) := hF
  have HVL : Hid (∀ j ∈ V.blocks, j < w.heap.size) := fun j hj => h.view.all_lt j (V.blocks_all j hj)
  obtain ⟨q, hq⟩ : ∃ q, (size + 127) / 128 = q := ⟨_, rfl⟩
  have HQ : Hid ((size + 127) / 128 = q) := hq
  have hq21 : q ≤ 21 := by omega
  have hqI : ((size : Int) + 128 - 1) / 128 = (q : Int) := by omega
  have hqt : ((size : Int) + 128 - 1).tdiv 128 = (q : Int) := by rw [Int.tdiv_eq_ediv_of_nonneg (by omega)]; exact hqI
  obtain ⟨E, hE⟩ : ∃ E, 128 * q = E := ⟨_, rfl⟩
  have HE : Hid (128 * q = E) := hE
  have hEI : (q : Int) * 128 = (E : Int) := by omega
  have HP : Hid (∀ w1, Calls Try.prog 36 #[.int .i64 size, .int .i64 E] w1 fun e w' => ∃ a c, e = .returned (.slice a (pcN size E) c) ∧ PcsAt w' a size E (pcN size E) ∧ (∀ b, a.map (·.block) = some b → w1.heap.size ≤ b ∧ b < w'.heap.size) ∧ Below w1.heap.size w1 w') := fun w1 => by
    have h := pieces_any size (E : Int) w1 hs (by omega) (by omega)
    rw [Int.toNat_natCast] at h
    exact h
  have hE2 : E ≤ 2688 := by omega
  clear h hg hGV hGL hF hq hE
  go_enter Try.func41, Try.ntmps41
  go_wp2
  go_loopw [8, 9] (fun i _ wr => ∃ (j : Nat) (S' : Vw) (N' : Nat) (mp' : Nat → Int), q ≤ j ∧ j ≤ 21 ∧ i = .int .i64 j ∧ Hid (On wr V S' N' L M) ∧ N' ≤ N + j ∧ Hid (IRow wr G 21 mp') ∧ Hid (Cuts S M node mp mr q j size size S' mp') ∧ Hid (Only (G :: V.blocks) w wr)) (fun i _ _ => 21 - (intOf i).toNat)
  case atStart => exact ⟨q, S, N, mp, Nat.le_refl _, hq21, rfl, H, by omega, HGR, cuts_zero _ _ HFI.out, Only.refl _ _⟩
  case round =>
    obtain ⟨j, S', N', mp', hqj, hj, rfl, HON, hN', HRW, HC, HO⟩ := hrel
    by_cases hlt : j < 21
    · have hjn : (j : Int) < 21 := by omega
      have x1 := HRW.out.cell j hlt
      have x2 := HRW.out.frozen j
      have r := HC.out.fil.rng j hlt
      obtain ⟨X, hX⟩ : ∃ X, mp' j = X := ⟨_, rfl⟩
      have HX : Hid (mp' j = X) := hX
      rw [hX] at x1 r
      obtain ⟨r0, r1⟩ := r
      clear hX
      by_cases hXh : X = -1
      · subst hXh
        go_wp2
        go_roundw
        case rel => exact ⟨j + 1, S', N', mp', by omega, by omega, by go_num, HON, by omega, HRW, HC.out.skip HX.out, HO⟩
        case measure => simp [intOf]; omega
      · have hXe : (X == -1) = false := by simpa using hXh
        have hX0 : 0 ≤ X := by omega
        have HXN : Hid (X ≠ -1) := hXh
        have HD : Hid _ := drop_yes V S' N' L M X wr HON.out (by omega) hX0 r1 (by have := HC.out.fil.own j hlt (by rw [HX.out]; exact hXh); rw [HX.out] at this; omega)
        clear hXh
        go_wp2_with fail
        refine Calls.mono (Hid.out HD) ?_
        rintro e w4 ⟨rfl, h4, ho4⟩
        have HR4 : Hid (IRow w4 G 21 mp') := HRW.out.only ho4 HGN.out
        have y1 := HR4.out.cell j hlt
        have y2 := HR4.out.frozen j
        rw [HX.out] at y1
        have HON4 : Hid (On (w4.setCell ⟨G, j, none⟩ (.int .i64 (-1))) V (S'.drop X) (N' + 1) L M) := On.rowSet h4 HGV.out HGL.out j _
        have HO4 : Hid (Only (G :: V.blocks) w (w4.setCell ⟨G, j, none⟩ (.int .i64 (-1)))) := (HO.out.trans (ho4.mono (fun x hx => by simp [hx]))).setCell (p := ⟨G, j, none⟩) (by simp) _
        have HR5 : Hid (IRow (w4.setCell ⟨G, j, none⟩ (.int .i64 (-1))) G 21 (updN mp' j (-1))) := HR4.out.set j _
        have HC5 : Hid (Cuts S M node mp mr q (j + 1) size size (S'.drop X) (updN mp' j (-1))) := by
          have := HC.out.drop hqj hlt (by rw [HX.out]; exact HXN.out) n0
          rw [HX.out] at this
          exact this
        clear h4 ho4 x1 x2
        go_wp2
        go_roundw
        case rel => exact ⟨j + 1, S'.drop X, N' + 1, updN mp' j (-1), by omega, by omega, by go_num, HON4, by omega, HR5, HC5, HO4⟩
        case measure => simp [intOf]; omega
    · have hjn : ¬ (j : Int) < 21 := by omega
      have hje : j = 21 := by omega
      have HC21 : Hid (Cuts S M node mp mr q 21 size size S' mp') := by rw [← hje]; exact HC.out
      have hN21 : N' ≤ N + 21 := by omega
      clear hje
      go_wp2_with fail
      refine Calls.mono (HP.out _) ?_
      rintro e w2 ⟨a, c, rfl, hpc, hab, hb2⟩
      have HON2 : Hid (On w2 V S' N' L M) := HON.out.later hb2
      have HO2 : Hid (Only (G :: V.blocks) w w2) := HO.out.trans (Only.of_below hb2)
      have HPC : Hid (PcsAt w2 a size E (pcN size E)) := hpc
      have HAB : Hid (∀ b, a.map (·.block) = some b → w.heap.size ≤ b ∧ b < w2.heap.size) := fun b hb => ⟨by have := (hab b hb).1; have := HO.out.size; omega, (hab b hb).2⟩
      have HR2 : Hid (IRow w2 G 21 mp') := HRW.out.later hb2
      obtain ⟨np, hnp⟩ : ∃ np, pcN size E = np := ⟨_, rfl⟩
      have HNP : Hid (pcN size E = np) := hnp
      rw [hnp] at HPC ⊢
      have hnp2 : np ≤ 21 := by rw [← hnp]; unfold pcN pcHi; split <;> omega
      clear hpc hab hb2 hnp
      go_wp2
      go_loopw [11, 12, 46] (fun _ _ i wr => ∃ (j : Nat) (S2 : Vw) (N2 : Nat), j ≤ np ∧ i = .int .i64 j ∧ Hid (On wr V S2 N2 L M) ∧ N2 ≤ N + 21 + 16 * j ∧ Hid (IRow wr G 21 mp') ∧ Hid (Cuts S M node mp mr q 21 size (posP size E j) S2 mp') ∧ Hid (Only (G :: V.blocks) w2 wr)) (fun _ _ i _ => np - (intOf i).toNat)
      case atStart => exact ⟨0, S', N', Nat.zero_le _, rfl, HON2, by omega, HR2, by show Cuts _ _ _ _ _ _ _ _ _ _ _; rw [show posP size E 0 = size by unfold posP; rw [if_pos rfl]]; exact HC21.out, Only.refl _ _⟩
      case round =>
        obtain ⟨i, S2, N2, hi, rfl, HONx, hN2, HRx, HCx, HOx⟩ := hrel
        by_cases hlt : i < np
        · obtain ⟨hAE, hp1, hp2, hFT, hPle, hApos⟩ := pos_step (at_ := size) (E := E) (j := i) (by rw [HNP.out]; exact hlt)
          have hTT : toP E (size / 128 + i) ≤ 128 := by unfold toP; omega
          obtain ⟨b2, rfl, hbl, hc⟩ := HPC.out.resolve_left (by omega)
          obtain ⟨x0, x1, x2⟩ := hc i hlt
          have hb2n : b2 ∉ G :: V.blocks := fun hm => by
            have h1 := (HAB.out b2 rfl).1
            rcases List.mem_cons.1 hm with e | e
            · have := HGR.out.lt; omega
            · have := HVL.out b2 e; omega
          have hx : ∀ o, wr.cell? ⟨b2, o, none⟩ = w2.cell? ⟨b2, o, none⟩ := fun o => World.cell?_of_block (a := ⟨b2, o, none⟩) (HOx.out.block b2 hbl hb2n)
          rw [← hx] at x0 x1 x2
          obtain ⟨P, hP⟩ : ∃ P, size / 128 + i = P := ⟨_, rfl⟩
          rw [hP] at hPle hp1 hp2 hFT hTT x0 x1 x2
          obtain ⟨F, hF⟩ : ∃ F, fromP size P = F := ⟨_, rfl⟩
          obtain ⟨T, hT⟩ : ∃ T, toP E P = T := ⟨_, rfl⟩
          rw [hF] at hp1 hFT x1
          rw [hT] at hp2 hFT hTT x2
          have hP21 : P < 21 := by omega
          have hP21I : (P : Int) < 21 := by omega
          have hP0I : (0 : Int) ≤ (P : Int) := by omega
          have HPc : Hid (posP size E i = 128 * P + F ∧ posP size E (i + 1) = 128 * P + T ∧ size ≤ posP size E i) := ⟨hp1, hp2, hApos⟩
          have hX01 := HCx.out.fil.rng P hP21
          obtain ⟨X, hX⟩ : ∃ X, mp' P = X := ⟨_, rfl⟩
          have HXE : Hid (mp' P = X) := hX
          rw [hX] at hX01
          obtain ⟨hX0, hX1⟩ := hX01
          have hjn2 : (i : Int) < (np : Int) := by omega
          have hFT0 : (F : Int) < (T : Int) := by omega
          have hT128 : (T : Int) ≤ 128 := by omega
          have hTFn : (T : Int) - (F : Int) = ((T - F : Nat) : Int) := by omega
          obtain ⟨pb, hpb⟩ : ∃ pb, wr.heap.size = pb := ⟨_, rfl⟩
          obtain ⟨wa, hwa⟩ : ∃ wa, wr.alloc (.cells #[.int .i64 (P : Int), .int .i64 (F : Int), .int .i64 (T : Int)] 88) = wa := ⟨_, rfl⟩
          have hba : Below wr.heap.size wr wa := by rw [← hwa]; exact (Below.refl _ _).alloc (Nat.le_refl _) _
          have hbk : wa.heap[pb]? = some (.cells #[.int .i64 (P : Int), .int .i64 (F : Int), .int .i64 (T : Int)] 88 (0, 0)) := by rw [← hwa, ← hpb]; exact heap_alloc_new _ _
          have z0 : wa.cell? ⟨pb, 0, none⟩ = some (.int .i64 (P : Int)) := by rw [cell_of_row _ _ 0 _ _ _ hbk]; rfl
          have z1 : wa.cell? ⟨pb, 1, none⟩ = some (.int .i64 (F : Int)) := by rw [cell_of_row _ _ 1 _ _ _ hbk]; rfl
          have z2 : wa.cell? ⟨pb, 2, none⟩ = some (.int .i64 (T : Int)) := by rw [cell_of_row _ _ 2 _ _ _ hbk]; rfl
          have HBK : Hid (wa.heap[pb]? = some (.cells #[.int .i64 (P : Int), .int .i64 (F : Int), .int .i64 (T : Int)] 88 (0, 0))) := hbk
          have HPL : Hid (pb < wa.heap.size) := (Array.getElem?_eq_some_iff.1 hbk).1
          have HPN : Hid (pb ∉ V.blocks) := fun hm => by have h1 := HVL.out _ hm; have h2 := HO2.out.size; have h3 := HOx.out.size; omega
          have HONa : Hid (On wa V S2 N2 L M) := HONx.out.later hba
          have HRWa : Hid (IRow wa G 21 mp') := HRx.out.later hba
          have HOa : Hid (Only (G :: V.blocks) w2 wa) := HOx.out.trans (Only.of_below hba)
          have HWA : Hid (wr.alloc (.cells #[.int .i64 (P : Int), .int .i64 (F : Int), .int .i64 (T : Int)] 88) = wa) := hwa
          have HPB : Hid (wr.heap.size = pb) := hpb
          have y0 : (wr.alloc (.cells #[.int .i64 (P : Int), .int .i64 (F : Int), .int .i64 (T : Int)] 88)).cell? ⟨G, P, none⟩ = some (.int .i64 X) := by rw [hwa, HRWa.out.cell P hP21, hX]
          clear hx hc hP hF hT hX hApos hPle hp1 hp2 hAE hbk hba hwa hpb
          by_cases hXh : X = -1
          · subst hXh
            have HC7 : Hid (Cuts S M node mp mr q 21 size (posP size E (i + 1)) S2 mp') := by
              show Cuts _ _ _ _ _ _ _ _ _ _ _
              rw [HPc.out.2.1]
              exact HCx.out.skipB HPc.out.1 (by omega) (by omega) HPc.out.2.2 HXE.out
            go_wp2
            rw [HWA.out]
            go_roundw
            case rel => exact ⟨i + 1, S2, N2, by omega, by go_num, HONa, by omega, HRWa, HC7, HOa⟩
            case measure => simp [intOf]; omega
          · have hXe : (X == -1) = false := by simpa using hXh
            have hb0 : 0 ≤ X := by omega
            have HC7 : Hid (Cuts S M node mp mr q 21 size (posP size E (i + 1)) (S2.setB X (putRow (S2.word M) X F (Wd.mkB (fun _ => 0) (T - F)))) mp') := by
              show Cuts _ _ _ _ _ _ _ _ _ _ _
              rw [HPc.out.2.1]
              exact HCx.out.put hP21 HXE.out hb0 HPc.out.1 (by omega) (by omega) HPc.out.2.2
            have HPUT : Hid (∀ w1, Below wa.heap.size wa w1 → Calls Try.prog 54 #[.pointer (some ⟨V.vb, 0, none⟩), .int .i64 X, .int .i64 F, .string (Wd.mkB (fun _ => 0) (T - F))] w1 fun e w' => e = .returned (.int .i64 0) ∧ On w' V (S2.setB X (putRow (S2.word M) X F (Wd.mkB (fun _ => 0) (T - F)))) (N2 + 16) L M ∧ Only V.blocks w1 w') := fun w1 hb =>
              bput_any V S2 N2 L M X F _ w1 (HONa.out.later hb) (by omega) hb0 hX1 (by rw [Wd.mkB_size]; omega)
            have HZR : Hid (∀ w1, Calls Try.prog 51 #[.int .i64 ((T : Int) - (F : Int))] w1 fun e w' => e = .returned (.string (Wd.mkB (fun _ => 0) (T - F))) ∧ Below w1.heap.size w1 w') := fun w1 => by
              rw [hTFn]; exact zeros_any (T - F) w1 (by omega)
            have hwr : IntKind.i64.wrap ((T : Int) - (F : Int)) = (T : Int) - (F : Int) := by rw [IntKind.wrap_i64]; omega
            clear hXh hTFn
            go_wp2
            rw [HWA.out, HPB.out]
            rw [HWA.out] at y0
            have hbw : Below wa.heap.size wa wa := Below.refl _ _
            go_region_held3 (fun v' => v'.cell? ⟨pb, 0, none⟩ = some (.int .i64 (P : Int)) ∧ v'.cell? ⟨pb, 1, none⟩ = some (.int .i64 (F : Int)) ∧ v'.cell? ⟨pb, 2, none⟩ = some (.int .i64 (T : Int)) ∧ v'.cell? ⟨G, P, none⟩ = some (.int .i64 X)) (first | go_keep | exact ⟨z0, z1, z2, y0⟩)
              (first
                | (go_at_call 51; refine Calls.mono (HZR.out _) ?_; rintro e w3 ⟨rfl, hb3⟩
                   have hbw : Below wa.heap.size wa w3 := by first | exact hbw.trans (hb3.mono hbw.size) | exact hbw.drew.trans (hb3.mono hbw.size)
                   have z0 : w3.cell? ⟨pb, 0, none⟩ = some (.int .i64 (P : Int)) := (World.cell?_of_block (a := ⟨pb, 0, none⟩) (hbw.block _ HPL.out)).trans (by rw [cell_of_row _ _ 0 _ _ _ HBK.out]; rfl)
                   have z1 : w3.cell? ⟨pb, 1, none⟩ = some (.int .i64 (F : Int)) := (World.cell?_of_block (a := ⟨pb, 1, none⟩) (hbw.block _ HPL.out)).trans (by rw [cell_of_row _ _ 1 _ _ _ HBK.out]; rfl)
                   have z2 : w3.cell? ⟨pb, 2, none⟩ = some (.int .i64 (T : Int)) := (World.cell?_of_block (a := ⟨pb, 2, none⟩) (hbw.block _ HPL.out)).trans (by rw [cell_of_row _ _ 2 _ _ _ HBK.out]; rfl)
                   have y0 : w3.cell? ⟨G, P, none⟩ = some (.int .i64 X) := by rw [(HRWa.out.later hbw).cell P hP21, HXE.out])
                | (go_at_call 54; refine Calls.mono (HPUT.out _ (by first | exact hbw | exact hbw.drew)) ?_; rintro e w5 ⟨rfl, h5, ho5⟩; have ho5 : Only V.blocks wa w5 := (Only.of_below hbw).trans ⟨ho5.os, ho5.tape, ho5.output, ho5.size, ho5.block⟩; have z0 : w5.cell? ⟨pb, 0, none⟩ = some (.int .i64 (P : Int)) := (World.cell?_of_block (a := ⟨pb, 0, none⟩) (ho5.block _ HPL.out HPN.out)).trans (by rw [cell_of_row _ _ 0 _ _ _ HBK.out]; rfl); have z1 : w5.cell? ⟨pb, 1, none⟩ = some (.int .i64 (F : Int)) := (World.cell?_of_block (a := ⟨pb, 1, none⟩) (ho5.block _ HPL.out HPN.out)).trans (by rw [cell_of_row _ _ 1 _ _ _ HBK.out]; rfl); have z2 : w5.cell? ⟨pb, 2, none⟩ = some (.int .i64 (T : Int)) := (World.cell?_of_block (a := ⟨pb, 2, none⟩) (ho5.block _ HPL.out HPN.out)).trans (by rw [cell_of_row _ _ 2 _ _ _ HBK.out]; rfl); have y0 : w5.cell? ⟨G, P, none⟩ = some (.int .i64 X) := by rw [(HRWa.out.only ho5 HGN.out).cell P hP21, HXE.out]))
            all_goals
              have H5 : Hid (On w5 V (S2.setB X (putRow (S2.word M) X F (Wd.mkB (fun _ => 0) (T - F)))) (N2 + 16) L M) := h5
              have HO5 : Hid (Only (G :: V.blocks) w2 w5) := HOa.out.trans (ho5.mono (fun x hx => by simp [hx]))
              have HR5 : Hid (IRow w5 G 21 mp') := HRWa.out.only ho5 HGN.out
              clear h5 ho5 z0 z1 z2 y0
              go_wp2
              go_roundw
              case rel => exact ⟨i + 1, _, _, by omega, by go_num, H5, by omega, HR5, HC7, HO5⟩
              case measure => simp [intOf]; omega
        · obtain rfl : i = np := by omega
          have hjn2 : ¬ (i : Int) < (i : Int) := by omega
          have HO9 : Hid (Only (G :: V.blocks) w wr) := HO2.out.trans HOx.out
          go_wp2
          go_ret
          exact ⟨S2, N2, mp', rfl, HONx.out, by omega, HO9.out, HRx.out, by rw [HQ.out, HE.out, HNP.out]; exact HCx.out⟩

end Go.Proofs.Ytdjnkibnnjobpaa
