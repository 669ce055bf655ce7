/- Contracts of fill: the bytes from one on are made others, and blocks taken for them. -/
import Derived.Test.YtdjnkibnnjobpaaBdI
namespace Go.Proofs.Ytdjnkibnnjobpaa
open Go.RowKit Go.Maps Go.ChangeMaps

/-- What lies there when the bytes of the first j pieces are laid, and blocks taken for the first t. -/
structure Filled (S : Vw) (M : Mem) (node : Int) (mp : Nat → Int) (mr : Int) (at_ E : Nat) (data : ByteArray) (j t : Nat) (S' : Vw) (mp' : Nat → Int) : Prop where
  fil : Fil (S'.word M) node mp' mr
  keeps : Keeps (S.word M) (S'.word M) node
  more : mr ≠ -1 → ∀ i : Nat, i < 16 → S'.word M (1288 + 16 * mr + (i : Int)) = S.word M (1288 + 16 * mr + (i : Int))
  bytes : ∀ i, i < 2688 → fileB (S'.word M) mp' i = if at_ ≤ i ∧ i < posP at_ E j then Wd.bAt data (i - at_) else fileB (S.word M) mp i
  holes : ∀ i, i < 21 → (mp' i = -1 ↔ mp i = -1 ∧ ¬ (at_ / 128 ≤ i ∧ i < at_ / 128 + t))
  fresh : nFresh S M 96 ≤ nFresh S' M 96 + t
  away : S'.away = S.away ∧ S'.awayN = S.awayN
theorem filled_zero {S : Vw} {M : Mem} {node : Int} {mp : Nat → Int} {mr : Int} (at_ E : Nat) (data : ByteArray) (h : Fil (S.word M) node mp mr) : Filled S M node mp mr at_ E data 0 0 S mp :=
  ⟨h, Keeps.refl _ _, fun _ _ _ => rfl, fun i _ => by
    unfold posP
    rw [if_pos rfl, if_neg (by omega)], fun i _ => by
    constructor
    · exact fun e => ⟨e, by omega⟩
    · exact fun e => e.1, by omega, rfl, rfl⟩
theorem setB_fresh (S : Vw) (M : Mem) (b : Int) (f : Nat → Int) (b0 : 0 ≤ b) (j : Int) : freshB (S.setB b f) M j = freshB S M j := by
  unfold freshB
  by_cases h : 0 ≤ j ∧ j < 96
  · rw [setB_out S M b f (200 + j) (by omega)]
    rfl
  · simp [h]
theorem give_count (S : Vw) (M : Mem) (q : Nat) (node : Int) (hq : q < 96) (hf : freshB S M (q : Int) = true) (n0 : 0 ≤ node) : nFresh S M 96 = nFresh (S.give q node) M 96 + 1 := by
  have h := nFresh_less (S := S) (S' := S.give q node) (M := M) 96 q hf (fun j hj => give_fresh S M q node j (by omega) (by omega) n0 (by omega) (by omega))
  rwa [if_pos hq] at h
theorem setB_count (S : Vw) (M : Mem) (b : Int) (f : Nat → Int) (b0 : 0 ≤ b) : nFresh (S.setB b f) M 96 = nFresh S M 96 := nFresh_congr 96 fun j _ => setB_fresh S M b f b0 j
section
variable {S S' : Vw} {M : Mem} {node : Int} {mp mp' : Nat → Int} {mr : Int} {at_ E : Nat} {data : ByteArray} {j : Nat}
theorem Filled.take (h : Filled S M node mp mr at_ E data j j S' mp') {q P : Nat} (hP : at_ / 128 + j = P) (hP21 : P < 21) (hh : mp' P = -1) (hq : q < 96) (hf : freshB S' M (q : Int) = true) (n0 : 0 ≤ node) :
    Filled S M node mp mr at_ E data j (j + 1) (S'.give q node) (updN mp' P q) := by
  have g := giveW S' M q node (by omega) (by omega)
  have hz := fresh_zero hf
  refine ⟨h.fil.take g hz (by omega) (by omega) n0 hP21 hh, h.keeps.trans (Keeps.give g hz (by omega) (by omega)), fun hm i hi => ?_, fun i hi => ?_, fun i hi => ?_, ?_, h.away⟩
  · have e := (h.fil.mown hm).1
    have r := h.fil.mrng
    have hne : mr ≠ q := fun x => by rw [x] at e; omega
    rw [g.out _ (by omega) (by omega)]
    exact h.more hm i hi
  · rw [bytes_take h.fil g hz (by omega) (by omega) n0 hh i hi]
    exact h.bytes i hi
  · unfold updN
    have := h.holes i hi
    by_cases e : i = P
    · rw [if_pos e]
      constructor
      · intro x; omega
      · intro x; omega
    · rw [if_neg e, this]
      constructor
      · rintro ⟨x, y⟩; exact ⟨x, by omega⟩
      · rintro ⟨x, y⟩; exact ⟨x, by omega⟩
  · have := h.fresh
    have := give_count S' M q node hq hf n0
    omega
theorem Filled.stay (h : Filled S M node mp mr at_ E data j j S' mp') {P : Nat} (hP : at_ / 128 + j = P) (hh : mp' P ≠ -1) : Filled S M node mp mr at_ E data j (j + 1) S' mp' := by
  refine ⟨h.fil, h.keeps, h.more, h.bytes, fun i hi => ?_, by have := h.fresh; omega, h.away⟩
  have := h.holes i hi
  rw [this]
  constructor
  · rintro ⟨x, y⟩
    refine ⟨x, fun z => ?_⟩
    by_cases e : i = P
    · rw [e] at this hi x
      exact hh (this.2 ⟨x, by omega⟩)
    · omega
  · rintro ⟨x, y⟩; exact ⟨x, by omega⟩
theorem Filled.put (h : Filled S M node mp mr at_ E data j (j + 1) S' mp') {P F T : Nat} {b : Int} {d : ByteArray} (hP21 : P < 21) (hb : mp' P = b) (b0 : 0 ≤ b) (hp1 : posP at_ E j = 128 * P + F) (hp2 : posP at_ E (j + 1) = 128 * P + T) (hFT : F < T) (hT : T ≤ 128) (hap : at_ ≤ posP at_ E j)
    (hd : d.size = T - F) (hdb : ∀ i, i < T - F → Wd.bAt d i = Wd.bAt data (posP at_ E j - at_ + i)) : Filled S M node mp mr at_ E data (j + 1) (j + 1) (S'.setB b (putRow (S'.word M) b F d)) mp' := by
  subst hb
  have hx : mp' P ≠ -1 := by omega
  have r := h.fil.rng P hP21
  have g := setW S' M (mp' P) (putRow (S'.word M) (mp' P) F d)
  have o := h.fil.own P hP21 hx
  refine ⟨h.fil.set g b0, h.keeps.trans (Keeps.set g o b0 r.2), fun hm i hi => ?_, fun i hi => ?_, h.holes, by rw [setB_count _ _ _ _ b0]; exact h.fresh, h.away⟩
  · have e := (h.fil.mown hm).2 P hP21
    rw [g.out _ (by omega)]
    exact h.more hm i hi
  · rw [bytes_put h.fil g hP21 hx (by omega) i hi, h.bytes i hi, hd, hp1, hp2]
    by_cases c : 128 * P + F ≤ i ∧ i < 128 * P + F + (T - F)
    · rw [if_pos c, if_pos (by omega), hdb _ (by omega), hp1]
      congr 1
      omega
    · rw [if_neg c]
      by_cases c2 : at_ ≤ i ∧ i < 128 * P + F
      · rw [if_pos c2, if_pos (by omega)]
      · rw [if_neg c2, if_neg (by omega)]
end
/-- What fill leaves. -/
def FillTo (V : VLay) (S : Vw) (N : Nat) (L : Lay) (M : Mem) (node : Int) (mp : Nat → Int) (mr : Int) (G at_ : Nat) (data : ByteArray) (w w' : World) (e : Ending) : Prop := ∃ er S' N', e = .returned (.int .i64 er) ∧ On w' V S' N' L M ∧ N' ≤ N + 693 ∧ Only (G :: V.blocks) w w' ∧ S'.away = S.away ∧ S'.awayN = S.awayN ∧
      (er = 0 ∧ (∃ mp', IRow w' G 21 mp' ∧ Filled S M node mp mr at_ (at_ + data.size) data (pcN at_ (at_ + data.size)) (pcN at_ (at_ + data.size)) S' mp') ∨ er = 9 ∧ nFresh S M 96 ≤ 20)
theorem nFresh_none {S : Vw} {M : Mem} (n : Nat) (h : ∀ j : Nat, j < n → freshB S M (j : Int) = false) : nFresh S M n = 0 := by
  induction n with
  | zero => rfl
  | succ n ih =>
    unfold nFresh
    rw [ih fun j hj => h j (by omega), h n (by omega)]
    rfl
theorem On.rowSet {w : World} {V : VLay} {S : Vw} {N : Nat} {L : Lay} {M : Mem} (h : On w V S N L M) {G : Nat} (hV : G ∉ V.all) (hL : G ∉ L.blocks) (i : Nat) (x : Value) : On (w.setCell ⟨G, i, none⟩ x) V S N L M := by
  have ho : Only [G] w (w.setCell ⟨G, i, none⟩ x) := (Only.refl _ _).setCell (p := ⟨G, i, none⟩) (by simp) x
  exact ⟨h.view.kept ho (fun j hj hx => by simp at hx; subst hx; exact hV hj), h.mem.kept ho (fun j hj hx => by simp at hx; subst hx; exact hL hj), h.mb, h.vl⟩

set_option maxHeartbeats 4000000 in
set_option maxRecDepth 100000 in
theorem fill_any (V : VLay) (S : Vw) (N : Nat) (L : Lay) (M : Mem) (node : Int) (mp : Nat → Int) (mr : Int) (G at_ : Nat) (data : ByteArray) (w : World) (h : On w V S N L M) (hN : N < 600000000) (n0 : 0 ≤ node) (n1 : node < 24) (hg : IRow w G 21 mp) (hGV : G ∉ V.all) (hGL : G ∉ L.blocks) (hF : Fil (S.word M) node mp mr) (hd : data.size ≤ 400) (hE : at_ + data.size ≤ 2688) :
    Calls Try.prog 40 #[.pointer (some ⟨V.vb, 0, none⟩), .int .i64 node, .slice (some ⟨G, 0, none⟩) 21 21, .int .i64 at_, .string data] w fun e w' => FillTo V S N L M node mp mr G at_ data w w' e := by
  have H : Hid (On w V S N L M) := h
  have HGR : Hid (IRow w G 21 mp) := hg
  have HGV : Hid (G ∉ V.all) := hGV
  have HGL : Hid (G ∉ L.blocks) := hGL
  have HGN : Hid (G ∉ V.blocks) := fun hm => hGV (V.blocks_all _ hm)
  have HFI : Hid (Fil (S.word M) node mp mr) := hF
  have HVL : Hid (∀ j ∈ V.blocks, j < w.heap.size) := fun j hj => h.view.all_lt j (V.blocks_all j hj)
  obtain ⟨E, hEe⟩ : ∃ E, at_ + data.size = E := ⟨_, rfl⟩
  have HEE : Hid (at_ + data.size = E) := hEe
  have hEI : (at_ : Int) + (data.size : Int) = (E : Int) := by omega
  have HP : Hid (∀ w1, Calls Try.prog 36 #[.int .i64 at_, .int .i64 E] w1 fun e w' => ∃ a c, e = .returned (.slice a (pcN at_ E) c) ∧ PcsAt w' a at_ E (pcN at_ E) ∧ (∀ b, a.map (·.block) = some b → w1.heap.size ≤ b ∧ b < w'.heap.size) ∧ Below w1.heap.size w1 w') := fun w1 => by
    have h := pieces_any at_ (E : Int) w1 (by omega) (by omega) (by omega)
    rw [Int.toNat_natCast] at h
    exact h
  have hE2 : E ≤ 2688 := by omega
  have hE3 : at_ ≤ E := by omega
  clear h hg hGV hGL hF hEe
  go_enter Try.func40, Try.ntmps40
  go_wp2_with fail
  refine Calls.mono (HP.out _) ?_
  rintro e w2 ⟨a, c, rfl, hpc, hab, hb2⟩
  have HB2 : Hid (Below w.heap.size w w2) := hb2
  have HPC : Hid (PcsAt w2 a at_ E (pcN at_ E)) := hpc
  have HAB : Hid (∀ b, a.map (·.block) = some b → w.heap.size ≤ b ∧ b < w2.heap.size) := hab
  have HR2 : Hid (IRow w2 G 21 mp) := HGR.out.later hb2
  have H2 : Hid (On w2 V S N L M) := H.out.later hb2
  obtain ⟨np, hnp⟩ : ∃ np, pcN at_ E = np := ⟨_, rfl⟩
  have HNP : Hid (pcN at_ E = np) := hnp
  rw [hnp] at HPC ⊢
  have hnp2 : np ≤ 21 := by rw [← hnp]; unfold pcN pcHi; split <;> omega
  clear hpc hab hb2 hnp
  go_wp2
  go_loopw [4, 12, 13, 14, 15, 16, 24] (fun v _ _ _ _ _ i wr => ∃ (j : Nat) (dj : ByteArray) (S' : Vw) (N' : Nat) (mp' : Nat → Int), j ≤ np ∧ i = .int .i64 j ∧ v = .string dj ∧ dj.size = E - posP at_ E j ∧ (∀ i, i < dj.size → Wd.bAt dj i = Wd.bAt data (posP at_ E j - at_ + i)) ∧ Hid (On wr V S' N' L M) ∧ N' ≤ N + 33 * j ∧ Hid (IRow wr G 21 mp') ∧ Hid (Filled S M node mp mr at_ E data j j S' mp') ∧ Hid (Only (G :: V.blocks) w2 wr)) (fun _ _ _ _ _ _ i _ => np - (intOf i).toNat)
  case atStart =>
    refine ⟨0, data, S, N, mp, Nat.zero_le _, rfl, rfl, ?_, fun i hi => ?_, H2, by omega, HR2, filled_zero _ _ _ HFI.out, Only.refl _ _⟩
    · unfold posP; rw [if_pos rfl]; have := HEE.out; omega
    · unfold posP; rw [if_pos rfl, Nat.sub_self, Nat.zero_add]
  case round =>
    obtain ⟨j, dj, S', N', mp', hj, rfl, rfl, hdz, hdb, HON, hN', HRW, HFL, HO⟩ := hrel
    have HDB : Hid (∀ i, i < dj.size → Wd.bAt dj i = Wd.bAt data (posP at_ E j - at_ + i)) := hdb
    have HDZ : Hid (dj.size = E - posP at_ E j) := hdz
    clear hdb
    by_cases hlt : j < np
    · obtain ⟨hAE, hp1, hp2, hFT, hPle, hApos⟩ := pos_step (at_ := at_) (E := E) (j := j) (by rw [HNP.out]; exact hlt)
      have hTT : toP E (at_ / 128 + j) ≤ 128 := by unfold toP; omega
      have hTE : 128 * (at_ / 128 + j) + toP E (at_ / 128 + j) ≤ E := by unfold toP; omega
      obtain ⟨b2, rfl, hbl, hc⟩ := HPC.out.resolve_left (by omega)
      obtain ⟨x0, x1, x2⟩ := hc j hlt
      have hb2n : b2 ∉ G :: V.blocks := fun hm => by
        have h1 := (HAB.out b2 rfl).1
        rcases List.mem_cons.1 hm with e | e
        · have := HGR.out.lt; omega
        · have := HVL.out b2 e; omega
      have hx : ∀ o, wr.cell? ⟨b2, o, none⟩ = w2.cell? ⟨b2, o, none⟩ := fun o => World.cell?_of_block (a := ⟨b2, o, none⟩) (HO.out.block b2 hbl hb2n)
      rw [← hx] at x0 x1 x2
      obtain ⟨P, hP⟩ : ∃ P, at_ / 128 + j = P := ⟨_, rfl⟩
      have HPe : Hid (at_ / 128 + j = P) := hP
      rw [hP] at hPle hp1 hp2 hFT hTT hTE x0 x1 x2
      obtain ⟨F, hF⟩ : ∃ F, fromP at_ P = F := ⟨_, rfl⟩
      obtain ⟨T, hT⟩ : ∃ T, toP E P = T := ⟨_, rfl⟩
      rw [hF] at hp1 hFT x1
      rw [hT] at hp2 hFT hTT hTE x2
      have hP21 : P < 21 := by omega
      have hP21I : (P : Int) < 21 := by omega
      have hP0I : (0 : Int) ≤ (P : Int) := by omega
      have HPc : Hid (posP at_ E j = 128 * P + F ∧ posP at_ E (j + 1) = 128 * P + T ∧ at_ ≤ posP at_ E j) := ⟨hp1, hp2, hApos⟩
      have hX01 := HFL.out.fil.rng P hP21
      obtain ⟨X, hX⟩ : ∃ X, mp' P = X := ⟨_, rfl⟩
      have HXE : Hid (mp' P = X) := hX
      rw [hX] at hX01
      obtain ⟨hX0, hX1⟩ := hX01
      have hszF : T - F ≤ dj.size := by omega
      have hjn : (j : Int) < (np : Int) := by omega
      have hFT0 : (F : Int) < (T : Int) := by omega
      have hT128 : (T : Int) ≤ 128 := by omega
      have hTF : (T : Int) - (F : Int) ≤ (dj.size : Int) := by omega
      have hTFn : (T : Int) - (F : Int) = ((T - F : Nat) : Int) := by omega
      have hdpz : Hid ((dj.extract 0 (T - F)).size = T - F) := by show _ = _; rw [ByteArray.size_extract]; omega
      have hdpb : Hid (∀ i, i < T - F → Wd.bAt (dj.extract 0 (T - F)) i = Wd.bAt data (posP at_ E j - at_ + i)) := fun i hi => by
        rw [Wd.bAt_extract _ _ _ _ hszF (by omega), Nat.zero_add]; exact HDB.out i (by omega)
      have hdz2 : Hid ((dj.extract (T - F) dj.size).size = E - posP at_ E (j + 1)) := by show _ = _; rw [ByteArray.size_extract, hp2]; omega
      have HDB2 : Hid (∀ i, i < (dj.extract (T - F) dj.size).size → Wd.bAt (dj.extract (T - F) dj.size) i = Wd.bAt data (posP at_ E (j + 1) - at_ + i)) := fun i hi => by
        rw [ByteArray.size_extract] at hi
        rw [Wd.bAt_extract _ _ _ _ (Nat.le_refl _) (by omega), HDB.out _ (by omega), hp1, hp2]
        congr 1
        omega
      obtain ⟨pb, hpb⟩ : ∃ pb, wr.heap.size = pb := ⟨_, rfl⟩
      obtain ⟨wa, hwa⟩ : ∃ wa, wr.alloc (.cells #[.int .i64 (P : Int), .int .i64 (F : Int), .int .i64 (T : Int)] 88) = wa := ⟨_, rfl⟩
      have hba : Below wr.heap.size wr wa := by rw [← hwa]; exact (Below.refl _ _).alloc (Nat.le_refl _) _
      have hbk : wa.heap[pb]? = some (.cells #[.int .i64 (P : Int), .int .i64 (F : Int), .int .i64 (T : Int)] 88 (0, 0)) := by rw [← hwa, ← hpb]; exact heap_alloc_new _ _
      have z0 : wa.cell? ⟨pb, 0, none⟩ = some (.int .i64 (P : Int)) := by rw [cell_of_row _ _ 0 _ _ _ hbk]; rfl
      have z1 : wa.cell? ⟨pb, 1, none⟩ = some (.int .i64 (F : Int)) := by rw [cell_of_row _ _ 1 _ _ _ hbk]; rfl
      have z2 : wa.cell? ⟨pb, 2, none⟩ = some (.int .i64 (T : Int)) := by rw [cell_of_row _ _ 2 _ _ _ hbk]; rfl
      have HPL : Hid (pb < wa.heap.size) := (Array.getElem?_eq_some_iff.1 hbk).1
      have HPN : Hid (pb ∉ V.blocks) := fun hm => by have h1 := HVL.out _ hm; have h2 := HB2.out.size; have h3 := HO.out.size; omega
      have HPG : Hid (pb ≠ G) := by show _ ≠ _; have h1 := HRW.out.lt; omega
      have HONa : Hid (On wa V S' N' L M) := HON.out.later hba
      have HRWa : Hid (IRow wa G 21 mp') := HRW.out.later hba
      have HOa : Hid (Only (G :: V.blocks) w2 wa) := HO.out.trans (Only.of_below hba)
      have HWA : Hid (wr.alloc (.cells #[.int .i64 (P : Int), .int .i64 (F : Int), .int .i64 (T : Int)] 88) = wa) := hwa
      have HPB : Hid (wr.heap.size = pb) := hpb
      have y0 : (wr.alloc (.cells #[.int .i64 (P : Int), .int .i64 (F : Int), .int .i64 (T : Int)] 88)).cell? ⟨G, P, none⟩ = some (.int .i64 X) := by rw [hwa, HRWa.out.cell P hP21, hX]
      have HPBa : Hid (pb < wa.heap.size) := HPL.out
      clear hx hc hP hF hT hX hApos hPle hp1 hp2 hAE hbk hba hwa hpb hdz
      by_cases hXh : X = -1
      · subst hXh
        rcases first_or (fun i => freshB S' M (i : Int)) 0 96 with ⟨q, _, hq, hfq, hlq⟩ | hlq
        · have HT : Hid _ := take_yes V S' N' L M node q wa HONa.out (by omega) n0 n1 (by omega) hfq (fun i hi => hlq i (by omega) hi)
          have HFT : Hid (Filled S M node mp mr at_ E data j (j + 1) (S'.give q node) (updN mp' P q)) := HFL.out.take HPe.out hP21 HXE.out (by omega) hfq n0
          have hq96 : q < 96 := by omega
          have hb0 : (0 : Int) ≤ (q : Int) := by omega
          have hb1 : (q : Int) < 96 := by omega
          clear hfq hlq hq
          go_wp2_with fail
          rw [HWA.out, HPB.out]
          refine Calls.mono (Hid.out HT) ?_
          rintro e w4 ⟨rfl, h4, ho4⟩
          have hz : ∀ o, w4.cell? ⟨pb, o, none⟩ = wa.cell? ⟨pb, o, none⟩ := fun o => World.cell?_of_block (a := ⟨pb, o, none⟩) (ho4.block _ HPL.out HPN.out)
          rw [← hz] at z0 z1 z2
          have HR4 : Hid (IRow w4 G 21 mp') := HRWa.out.only ho4 HGN.out
          have y1 := HR4.out.cell P hP21
          have y2 := HR4.out.frozen P
          have z0' : (w4.setCell ⟨G, P, none⟩ (.int .i64 (q : Int))).cell? ⟨pb, 0, none⟩ = some (.int .i64 (P : Int)) := (World.cell?_of_block (a := ⟨pb, 0, none⟩) (Below.heap_setCell _ _ _ _ HPG.out)).trans z0
          have z1' : (w4.setCell ⟨G, P, none⟩ (.int .i64 (q : Int))).cell? ⟨pb, 1, none⟩ = some (.int .i64 (F : Int)) := (World.cell?_of_block (a := ⟨pb, 1, none⟩) (Below.heap_setCell _ _ _ _ HPG.out)).trans z1
          have z2' : (w4.setCell ⟨G, P, none⟩ (.int .i64 (q : Int))).cell? ⟨pb, 2, none⟩ = some (.int .i64 (T : Int)) := (World.cell?_of_block (a := ⟨pb, 2, none⟩) (Below.heap_setCell _ _ _ _ HPG.out)).trans z2
          have HRB : Hid (IRow (w4.setCell ⟨G, P, none⟩ (.int .i64 (q : Int))) G 21 (updN mp' P q)) := HR4.out.set P q
          have HONB : Hid (On (w4.setCell ⟨G, P, none⟩ (.int .i64 (q : Int))) V (S'.give q node) (N' + 17) L M) := On.rowSet h4 HGV.out HGL.out P _
          have HOB : Hid (Only (G :: V.blocks) w2 (w4.setCell ⟨G, P, none⟩ (.int .i64 (q : Int)))) := (HOa.out.trans (ho4.mono (fun x hx => by simp [hx]))).setCell (p := ⟨G, P, none⟩) (by simp) _
          have HPBb : Hid (pb < (w4.setCell ⟨G, P, none⟩ (.int .i64 (q : Int))).heap.size) := by have h1 := HPL.out; have h2 := ho4.size; show _ < _; simp; omega
          have HBE : Hid (updN mp' P q P = (q : Int)) := by show _ = _; unfold updN; rw [if_pos rfl]
          obtain ⟨Y, hY⟩ : ∃ Y, mp' P = Y := ⟨_, rfl⟩
          rw [hY] at y1
          clear h4 ho4 hz hY z1 z2
          go_wp2
          obtain ⟨wb, hwb⟩ : ∃ wb, w4.setCell ⟨G, P, none⟩ (.int .i64 (q : Int)) = wb := ⟨_, rfl⟩
          rw [hwb] at z0' z1' z2' HRB HONB HOB HPBb ⊢
          clear z0
          have z0 := z0'
          have z1 := z1'
          clear hwb y1 y2 z0' z1' z2'
          have HPBx := HPBb
          have HPUT : Hid (∀ w1, Below wb.heap.size wb w1 → Calls Try.prog 54 #[.pointer (some ⟨V.vb, 0, none⟩), .int .i64 (q : Int), .int .i64 F, .string (dj.extract 0 (T - F))] w1 fun e w' => e = .returned (.int .i64 0) ∧ On w' V ((S'.give q node).setB q (putRow ((S'.give q node).word M) q F (dj.extract 0 (T - F)))) (N' + 17 + 16) L M ∧ Only V.blocks w1 w') := fun w1 hb =>
            bput_any V (S'.give q node) (N' + 17) L M q F (dj.extract 0 (T - F)) w1 (HONB.out.later hb) (by omega) hb0 hb1 (by rw [ByteArray.size_extract]; omega)
          have y0 : wb.cell? ⟨G, P, none⟩ = some (.int .i64 (q : Int)) := by have := HRB.out.cell P hP21; rw [HBE.out] at this; exact this
          go_region_held3 (fun v' => v'.cell? ⟨pb, 0, none⟩ = some (.int .i64 P) ∧ v'.cell? ⟨pb, 1, none⟩ = some (.int .i64 F) ∧ v'.cell? ⟨G, P, none⟩ = some (.int .i64 (q : Int))) (first | go_keep | exact ⟨z0, z1, y0⟩)
            (first
              | (go_at_call 54; refine Calls.mono (HPUT.out _ (by first | exact Below.refl _ _ | exact (Below.refl _ _).drew)) ?_; rintro e w5 ⟨rfl, h5, ho5⟩; have z0 : w5.cell? ⟨pb, 0, none⟩ = some (.int .i64 P) := (World.cell?_of_block (a := ⟨pb, 0, none⟩) (ho5.block _ HPBx.out HPN.out)).trans z0; have z1 : w5.cell? ⟨pb, 1, none⟩ = some (.int .i64 F) := (World.cell?_of_block (a := ⟨pb, 1, none⟩) (ho5.block _ HPBx.out HPN.out)).trans z1; have y0 : w5.cell? ⟨G, P, none⟩ = some (.int .i64 (q : Int)) := (World.cell?_of_block (a := ⟨G, P, none⟩) (ho5.block _ HRB.out.lt HGN.out)).trans y0))
          all_goals
            have H5 : Hid (On w5 V ((S'.give q node).setB q (putRow ((S'.give q node).word M) q F (dj.extract 0 (T - F)))) (N' + 17 + 16) L M) := h5
            have HO5 : Hid (Only (G :: V.blocks) w2 w5) := HOB.out.trans (by first | exact ho5.mono (fun x hx => by simp [hx]) | exact Only.mono (S := V.blocks) ⟨ho5.os, ho5.tape, ho5.output, ho5.size, ho5.block⟩ (fun x hx => by simp [hx]))
            have HR5 : Hid (IRow w5 G 21 (updN mp' P q)) := by first | exact HRB.out.only ho5 HGN.out | exact IRow.only (w := wb) HRB.out ⟨ho5.os, ho5.tape, ho5.output, ho5.size, ho5.block⟩ HGN.out
            have HF5 : Hid (Filled S M node mp mr at_ E data (j + 1) (j + 1) ((S'.give q node).setB q (putRow ((S'.give q node).word M) q F (dj.extract 0 (T - F)))) (updN mp' P q)) := HFT.out.put hP21 HBE.out hb0 HPc.out.1 HPc.out.2.1 (by omega) (by omega) HPc.out.2.2 hdpz.out hdpb.out
            clear h5 ho5 z0 z1 y0
            go_wp2
            go_roundw
            case rel => exact ⟨j + 1, dj.extract (T - F) dj.size, _, _, _, by omega, by go_num, rfl, hdz2.out, HDB2.out, H5, by omega, HR5, HF5, HO5⟩
            case measure => simp [intOf]; omega
        · have HT : Hid _ := take_full V S' N' L M node wa HONa.out n0 n1 (fun i hi => hlq i (by omega) (by omega))
          have HNF : Hid (nFresh S M 96 ≤ 20) := by
            have h1 := HFL.out.fresh
            rw [nFresh_none 96 (fun i hi => hlq i (by omega) (by omega))] at h1
            show _ ≤ _
            omega
          have HAW : Hid (S'.away = S.away ∧ S'.awayN = S.awayN) := HFL.out.away
          clear hlq
          go_wp2_with fail
          rw [HWA.out, HPB.out]
          refine Calls.mono (Hid.out HT) ?_
          rintro e w4 ⟨rfl, hb4⟩
          have H4 : Hid (On w4 V S' N' L M) := HONa.out.later hb4
          have HO4 : Hid (Only (G :: V.blocks) w w4) := ((Only.of_below HB2.out).trans HOa.out).trans (Only.of_below hb4)
          clear hb4
          go_wp2
          go_ret
          exact ⟨9, S', N', rfl, H4.out, by omega, HO4.out, HAW.out.1, HAW.out.2, .inr ⟨rfl, HNF.out⟩⟩
      · have hXe : (X == -1) = false := by simpa using hXh
        have hb0 : 0 ≤ X := by omega
        have hb1 : X < 96 := hX1
        have HFS : Hid (Filled S M node mp mr at_ E data j (j + 1) S' mp') := HFL.out.stay HPe.out (by rw [HXE.out]; exact hXh)
        have HBE : Hid (mp' P = X) := HXE.out
        clear hXh
        go_wp2
        rw [HWA.out, HPB.out]
        have HPBx := HPBa
        clear y0 z2
        have HPUT : Hid (∀ w1, Below wa.heap.size wa w1 → Calls Try.prog 54 #[.pointer (some ⟨V.vb, 0, none⟩), .int .i64 X, .int .i64 F, .string (dj.extract 0 (T - F))] w1 fun e w' => e = .returned (.int .i64 0) ∧ On w' V ((S').setB X (putRow ((S').word M) X F (dj.extract 0 (T - F)))) (N' + 16) L M ∧ Only V.blocks w1 w') := fun w1 hb =>
          bput_any V (S') (N') L M X F (dj.extract 0 (T - F)) w1 (HONa.out.later hb) (by omega) hb0 hb1 (by rw [ByteArray.size_extract]; omega)
        have y0 : wa.cell? ⟨G, P, none⟩ = some (.int .i64 X) := by have := HRWa.out.cell P hP21; rw [HBE.out] at this; exact this
        go_region_held3 (fun v' => v'.cell? ⟨pb, 0, none⟩ = some (.int .i64 P) ∧ v'.cell? ⟨pb, 1, none⟩ = some (.int .i64 F) ∧ v'.cell? ⟨G, P, none⟩ = some (.int .i64 X)) (first | go_keep | exact ⟨z0, z1, y0⟩)
          (first
            | (go_at_call 54; refine Calls.mono (HPUT.out _ (by first | exact Below.refl _ _ | exact (Below.refl _ _).drew)) ?_; rintro e w5 ⟨rfl, h5, ho5⟩; have z0 : w5.cell? ⟨pb, 0, none⟩ = some (.int .i64 P) := (World.cell?_of_block (a := ⟨pb, 0, none⟩) (ho5.block _ HPBx.out HPN.out)).trans z0; have z1 : w5.cell? ⟨pb, 1, none⟩ = some (.int .i64 F) := (World.cell?_of_block (a := ⟨pb, 1, none⟩) (ho5.block _ HPBx.out HPN.out)).trans z1; have y0 : w5.cell? ⟨G, P, none⟩ = some (.int .i64 X) := (World.cell?_of_block (a := ⟨G, P, none⟩) (ho5.block _ HRWa.out.lt HGN.out)).trans y0))
        all_goals
          have H5 : Hid (On w5 V ((S').setB X (putRow ((S').word M) X F (dj.extract 0 (T - F)))) (N' + 16) L M) := h5
          have HO5 : Hid (Only (G :: V.blocks) w2 w5) := HOa.out.trans (by first | exact ho5.mono (fun x hx => by simp [hx]) | exact Only.mono (S := V.blocks) ⟨ho5.os, ho5.tape, ho5.output, ho5.size, ho5.block⟩ (fun x hx => by simp [hx]))
          have HR5 : Hid (IRow w5 G 21 (mp')) := by first | exact HRWa.out.only ho5 HGN.out | exact IRow.only (w := wa) HRWa.out ⟨ho5.os, ho5.tape, ho5.output, ho5.size, ho5.block⟩ HGN.out
          have HF5 : Hid (Filled S M node mp mr at_ E data (j + 1) (j + 1) ((S').setB X (putRow ((S').word M) X F (dj.extract 0 (T - F)))) (mp')) := HFS.out.put hP21 HBE.out hb0 HPc.out.1 HPc.out.2.1 (by omega) (by omega) HPc.out.2.2 hdpz.out hdpb.out
          clear h5 ho5 z0 z1 y0
          go_wp2
          go_roundw
          case rel => exact ⟨j + 1, dj.extract (T - F) dj.size, _, _, _, by omega, by go_num, rfl, hdz2.out, HDB2.out, H5, by omega, HR5, HF5, HO5⟩
          case measure => simp [intOf]; omega
    · obtain rfl : j = np := by omega
      have hjn : ¬ (j : Int) < (j : Int) := by omega
      have HF9 : Hid (Filled S M node mp mr at_ E data (pcN at_ E) (pcN at_ E) S' mp') := by rw [HNP.out]; exact HFL.out
      have HO9 : Hid (Only (G :: V.blocks) w wr) := (Only.of_below HB2.out).trans HO.out
      go_wp2
      go_ret
      exact ⟨0, S', N', rfl, HON.out, by omega, HO9.out, HF9.out.away.1, HF9.out.away.2, .inl ⟨rfl, mp', HRW.out, by rw [HEE.out]; exact HF9.out⟩⟩

end Go.Proofs.Ytdjnkibnnjobpaa
