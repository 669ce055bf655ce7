/- Contracts of Read: the bytes of a file. -/
import Derived.Test.YtdjnkibnnjobpaaBdD
import Derived.Test.YtdjnkibnnjobpaaBdE
import Derived.Test.YtdjnkibnnjobpaaBld
namespace Go.Proofs.Ytdjnkibnnjobpaa
open Go.RowKit Go.Maps Go.ChangeMaps

/-- The byte i of a file with this map over these words. -/
def fileB (W : Int → Int) (mp : Nat → Int) (i : Nat) : Nat := blkB W (mp (i / 128)) (i % 128)
theorem fileB_lt (W : Int → Int) (mp : Nat → Int) (i : Nat) : fileB W mp i < 256 := blkB_lt _ _ _
/-- The bytes from a on, ahead of e. -/
def span (W : Int → Int) (mp : Nat → Int) (a e : Nat) : ByteArray := Wd.mkB (fun i => fileB W mp (a + i)) (e - a)
theorem span_size (W : Int → Int) (mp : Nat → Int) (a e : Nat) : (span W mp a e).size = e - a := Wd.mkB_size _ _
theorem span_at (W : Int → Int) (mp : Nat → Int) (a e i : Nat) (h : a + i < e) : Wd.bAt (span W mp a e) i = fileB W mp (a + i) := Wd.bAt_mkB _ (fun i => fileB_lt W mp (a + i)) _ _ (by omega)
/-- Where the piece j begins. -/
def posP (at_ E j : Nat) : Nat := if j = 0 then at_ else min E (128 * (at_ / 128 + j))
theorem pos_step {at_ E j : Nat} (h : j < pcN at_ E) : at_ < E ∧ posP at_ E j = 128 * (at_ / 128 + j) + fromP at_ (at_ / 128 + j) ∧ posP at_ E (j + 1) = 128 * (at_ / 128 + j) + toP E (at_ / 128 + j) ∧ fromP at_ (at_ / 128 + j) < toP E (at_ / 128 + j) ∧ at_ / 128 + j ≤ (E - 1) / 128 ∧ at_ ≤ posP at_ E j := by
  unfold pcN pcHi at h
  by_cases e : at_ < E
  · rw [if_pos e] at h
    unfold posP fromP toP
    by_cases e0 : j = 0
    · subst e0
      rw [if_pos rfl, if_neg (by omega)]
      omega
    · rw [if_neg e0, if_neg (by omega)]
      omega
  · rw [if_neg e] at h
    omega
theorem pos_end (at_ E : Nat) : posP at_ E (pcN at_ E) - at_ = E - at_ := by
  unfold posP pcN pcHi
  by_cases e : at_ < E
  · rw [if_pos e, if_neg (by omega)]
    omega
  · rw [if_neg e, if_pos (by omega)]
    omega
theorem span_step (W : Int → Int) (mp : Nat → Int) {at_ E j : Nat} (h : j < pcN at_ E) :
    span W mp at_ (posP at_ E j) ++ (blkT W (mp (at_ / 128 + j))).extract (fromP at_ (at_ / 128 + j)) (toP E (at_ / 128 + j)) = span W mp at_ (posP at_ E (j + 1)) := by
  obtain ⟨h1, h2, h3, h4, _, h6⟩ := pos_step h
  have hT : toP E (at_ / 128 + j) ≤ 128 := by unfold toP; omega
  obtain ⟨p, hp⟩ : ∃ p, at_ / 128 + j = p := ⟨_, rfl⟩
  rw [hp] at h2 h3 h4 hT ⊢
  obtain ⟨F, hF⟩ : ∃ F, fromP at_ p = F := ⟨_, rfl⟩
  obtain ⟨T, hT'⟩ : ∃ T, toP E p = T := ⟨_, rfl⟩
  rw [hF] at h2 h4
  rw [hT'] at h3 h4 hT
  rw [hF, hT']
  apply Wd.ext_bAt
  · rw [ByteArray.size_append, span_size, span_size, ByteArray.size_extract, blkT_size]
    omega
  · intro i hi
    rw [ByteArray.size_append, span_size, ByteArray.size_extract, blkT_size] at hi
    rw [Wd.bAt_append, span_size]
    by_cases hl : i < posP at_ E j - at_
    · rw [if_pos hl, span_at _ _ _ _ _ (by omega), span_at _ _ _ _ _ (by omega)]
    · rw [if_neg hl, Wd.bAt_extract _ _ _ _ (by rw [blkT_size]; omega) (by omega), blkT_at _ _ _ (by omega), span_at _ _ _ _ _ (by omega)]
      unfold fileB
      have e1 : (at_ + i) / 128 = p := by omega
      have e2 : (at_ + i) % 128 = F + (i - (posP at_ E j - at_)) := by omega
      rw [e1, e2]
theorem strCells_app (a b : ByteArray) : Lib.strCells a ++ Lib.strCells b = Lib.strCells (a ++ b) := by
  rw [Lib.strCells_eq, Lib.strCells_eq, Lib.strCells_eq, ← Lib.byteCells_append]
  simp
theorem strSpan0 (W : Int → Int) (mp : Nat → Int) (a E : Nat) : Lib.strCells (span W mp a (posP a E 0)) = [] := by
  apply List.eq_nil_of_length_eq_zero
  rw [Lib.strCells_length, span_size]
  unfold posP
  rw [if_pos rfl]
  omega
theorem span_done (W : Int → Int) (mp : Nat → Int) (a E n : Nat) (h : pcN a E = n) : span W mp a (posP a E n) = span W mp a E := by
  subst h
  unfold span
  rw [pos_end]
theorem On.box {w w' : World} {V : VLay} {S : Vw} {N : Nat} {L : Lay} {M : Mem} (h : On w V S N L M) (hb : Below w.heap.size w w') : On w' V S N L M := h.later hb

set_option maxHeartbeats 4000000 in
set_option maxRecDepth 100000 in
theorem bread_any (V : VLay) (S : Vw) (N : Nat) (L : Lay) (M : Mem) (k l s v d0 d1 d2 d3 d4 m : Int) (at_ n : Nat) (w : World) (h : On w V S N L M) (m0 : -1 ≤ m) (m1 : m < 96)
    (hm : m = -1 ∨ (∀ i : Nat, i < 16 → S.word M (1288 + 16 * m + (i : Int)) ≤ 96) ∧ ∃ i : Nat, i < 16 ∧ S.word M (1288 + 16 * m + (i : Int)) ≠ 0)
    (hmp : ∀ i, i < 21 → -1 ≤ mapF (S.word M) d0 d1 d2 d3 d4 m i ∧ mapF (S.word M) d0 d1 d2 d3 d4 m i < 96) (s0 : 0 ≤ s) (s1 : s ≤ 2688) (hn : n ≤ 4096) (hat : at_ ≤ 9223372036854775807) :
    Calls Try.prog 17 #[.pointer (some ⟨V.vb, 0, none⟩), .agg #[.int .i64 k, .int .i64 l, .int .i64 s, .int .u64 v, .int .i64 d0, .int .i64 d1, .int .i64 d2, .int .i64 d3, .int .i64 d4, .int .i64 m], .int .i64 at_, .int .i64 n] w fun e w' => e = .returned (.tuple #[.string (span (S.word M) (mapF (S.word M) d0 d1 d2 d3 d4 m) (min at_ 2688) (min (min at_ 2688 + n) s.toNat)), .int .i64 0]) ∧ Below w.heap.size w w' := by
  have H : Hid (On w V S N L M) := h
  have HM : Hid (∀ w1, Below w.heap.size w w1 → Calls Try.prog 11 #[.pointer (some ⟨V.vb, 0, none⟩), .agg #[.int .i64 k, .int .i64 l, .int .i64 s, .int .u64 v, .int .i64 d0, .int .i64 d1, .int .i64 d2, .int .i64 d3, .int .i64 d4, .int .i64 m]] w1 fun e w' => (∃ g, w1.heap.size ≤ g ∧ e = .returned (.tuple #[.slice (some ⟨g, 0, none⟩) 21 21, .int .i64 0]) ∧ IRow w' g 21 (mapF (S.word M) d0 d1 d2 d3 d4 m)) ∧ Below w1.heap.size w1 w') := fun w1 hb => by
    refine (map_any V S N L M k l s v d0 d1 d2 d3 d4 m w1 (h.later hb) m0 m1 true ⟨fun _ => hm, fun _ => rfl⟩).mono ?_
    rintro e w' ⟨h1, h2⟩
    rcases h1 with ⟨_, h1⟩ | ⟨h1, _⟩
    · exact ⟨h1, h2⟩
    · cases h1
  obtain ⟨mp, hmpe⟩ : ∃ mp, mapF (S.word M) d0 d1 d2 d3 d4 m = mp := ⟨_, rfl⟩
  rw [hmpe] at HM hmp ⊢
  have HMP : Hid (∀ i, i < 21 → -1 ≤ mp i ∧ mp i < 96) := hmp
  have hmin : min (at_ : Int) 2688 = ((min at_ 2688 : Nat) : Int) := by omega
  obtain ⟨A, hA⟩ : ∃ A, min at_ 2688 = A := ⟨_, rfl⟩
  rw [hA] at hmin ⊢
  have hA1 : A ≤ 2688 := by omega
  obtain ⟨E, hE⟩ : ∃ E, min (A + n) s.toNat = E := ⟨_, rfl⟩
  rw [hE]
  have hEI : min ((A : Int) + (n : Int)) s = (E : Int) := by omega
  have hE2 : E ≤ 2688 := by omega
  have HP : Hid (∀ w1, Calls Try.prog 36 #[.int .i64 A, .int .i64 E] w1 fun e w' => ∃ a c, e = .returned (.slice a (pcN A E) c) ∧ PcsAt w' a A E (pcN A E) ∧ (∀ b, a.map (·.block) = some b → w1.heap.size ≤ b ∧ b < w'.heap.size) ∧ Below w1.heap.size w1 w') := fun w1 => by
    have h := pieces_any A (E : Int) w1 hA1 (by omega) (by omega)
    rw [Int.toNat_natCast] at h
    exact h
  clear hmpe hmp hA hE h hm
  go_enter Try.func17, Try.ntmps17
  go_wp2_with fail
  obtain ⟨W, hW, HS, HE, HC⟩ := Cd.new_card w k l s v d0 d1 d2 d3 d4 m
  rw [hW]
  clear hW
  obtain ⟨c0, c1, c2, c3, c4, c5, c6, c7, c8, c9⟩ := HC.out W (Below.refl _ _)
  have HB0 : Hid (Below w.heap.size w W) := HE.out W (Below.refl _ _)
  go_wp2_with fail
  refine Calls.mono (HM.out W HB0.out) ?_
  rintro e w1 ⟨⟨G, hGw, rfl, hR⟩, hb1⟩
  have HB1 : Hid (Below W.heap.size W w1) := hb1
  have HR1 : Hid (IRow w1 G 21 mp) := hR
  have HG : Hid (W.heap.size ≤ G) := hGw
  have hBA : Below W.heap.size W (w1.alloc (.cells #[.pointer none, .slice none 0 0] 84)) := hb1.alloc hb1.size _
  obtain ⟨z0, z1, z2, z3, z4, z5, z6, z7, z8, z9⟩ := HC.out _ hBA
  have HBA : Hid _ := hBA
  obtain ⟨bb, hbb⟩ : ∃ bb, w1.heap.size = bb := ⟨_, rfl⟩
  have HBld : Hid (∀ C, Bldr (w1.alloc (.cells #[.pointer none, .slice none 0 0] 84)) C bb []) := fun C => by rw [← hbb]; exact Bldr.new w1 C
  have HRA : Hid (IRow (w1.alloc (.cells #[.pointer none, .slice none 0 0] 84)) G 21 mp) := HR1.out.later ((Below.refl _ _).alloc (Nat.le_refl _) _)
  have HGb : Hid (G < bb ∧ bb < (w1.alloc (.cells #[.pointer none, .slice none 0 0] 84)).heap.size) := ⟨by have := HR1.out.lt; omega, by simp; omega⟩
  have HWb : Hid (W.heap.size ≤ bb) := by have := hb1.size; show _ ≤ _; omega
  have HBB : Hid (w1.heap.size = bb) := hbb
  clear c0 c1 c2 c3 c4 c5 c6 c7 c8 c9 z0 z1 z3 z4 z5 z6 z7 z8 z9 hb1 hR hGw hBA hbb
  go_wp2_with fail
  rw [HBB.out]
  obtain ⟨wA, hwA⟩ : ∃ wA, w1.alloc (.cells #[.pointer none, .slice none 0 0] 84) = wA := ⟨_, rfl⟩
  rw [hwA] at HBA HBld HRA HGb ⊢
  clear hwA z2
  refine Calls.mono (HP.out _) ?_
  rintro e w2 ⟨a, c, rfl, hpc, hab, hb2⟩
  have HB2 : Hid (Below w.heap.size w w2) := HE.out _ (HBA.out.trans (hb2.mono HBA.out.size))
  have HPC : Hid (PcsAt w2 a A E (pcN A E)) := hpc
  have HAB : Hid (∀ b, a.map (·.block) = some b → bb < b ∧ b < w2.heap.size) := fun b hb => ⟨by have := (hab b hb).1; have := HGb.out.2; omega, (hab b hb).2⟩
  have HBl2 : Hid (Bldr w2 w2.heap.size bb []) := (HBld.out _).later hb2
  have HR2 : Hid (IRow w2 G 21 mp) := HRA.out.later hb2
  have HC2 : Hid (bb < w2.heap.size) := by have := HGb.out.2; have := hb2.size; show _ < _; omega
  obtain ⟨np, hnp⟩ : ∃ np, pcN A E = np := ⟨_, rfl⟩
  have HNP : Hid (pcN A E = np) := hnp
  rw [hnp] at HPC ⊢
  have hnp2 : np ≤ 21 := by rw [← hnp]; unfold pcN pcHi; split <;> omega
  clear hpc hab hb2 HBld hnp
  go_wp2
  go_loopw [14, 15, 16, 47] (fun _ _ _ i wr => ∃ j : Nat, j ≤ np ∧ i = .int .i64 j ∧ Hid (Bldr wr w2.heap.size bb (Lib.strCells (span (S.word M) mp A (posP A E j)))) ∧ Hid (Under w2.heap.size bb w2 wr)) (fun _ _ _ i _ => np - (intOf i).toNat)
  case atStart => exact ⟨0, Nat.zero_le _, rfl, by show Bldr _ _ _ _; rw [strSpan0]; exact HBl2.out, Under.refl _ _ _⟩
  case round =>
    obtain ⟨j, hj, rfl, HBj, HU⟩ := hrel
    have HBw : Hid (Below w.heap.size w wr) := HB2.out.trans (HU.out.below HB2.out.size (Nat.le_trans HB0.out.size HWb.out))
    by_cases hlt : j < np
    · obtain ⟨hAE, hp1, hp2, hFT, hPle, hApos⟩ := pos_step (at_ := A) (E := E) (j := j) (by rw [HNP.out]; exact hlt)
      have HST : Hid _ := span_step (S.word M) mp (at_ := A) (E := E) (j := j) (by rw [HNP.out]; exact hlt)
      have hTT : toP E (A / 128 + j) ≤ 128 := by unfold toP; omega
      obtain ⟨b2, rfl, hbl, hc⟩ := HPC.out.resolve_left (by omega)
      obtain ⟨x0, x1, x2⟩ := hc j hlt
      have hx : ∀ o, wr.cell? ⟨b2, o, none⟩ = w2.cell? ⟨b2, o, none⟩ := fun o => World.cell?_of_block (a := ⟨b2, o, none⟩) (HU.out.block b2 hbl (by have := (HAB.out b2 rfl).1; omega))
      rw [← hx] at x0 x1 x2
      have HRr : Hid (IRow wr G 21 mp) := HR2.out.of_block (HU.out.block G (by have := HGb.out.1; have := HC2.out; omega) (by have := HGb.out.1; omega))
      obtain ⟨P, hP⟩ : ∃ P, A / 128 + j = P := ⟨_, rfl⟩
      rw [hP] at hPle hp1 hp2 hFT hTT x0 x1 x2 HST
      obtain ⟨F, hF⟩ : ∃ F, fromP A P = F := ⟨_, rfl⟩
      obtain ⟨T, hT⟩ : ∃ T, toP E P = T := ⟨_, rfl⟩
      rw [hF] at hp1 hFT x1 HST
      rw [hT] at hp2 hFT hTT x2 HST
      have hP21 : P < 21 := by omega
      obtain ⟨hX0, hX1⟩ := HMP.out P hP21
      obtain ⟨X, hX⟩ : ∃ X, mp P = X := ⟨_, rfl⟩
      have y0 : (wr.alloc (.cells #[.int .i64 (P : Int), .int .i64 (F : Int), .int .i64 (T : Int)] 88)).cell? ⟨G, P, none⟩ = some (.int .i64 X) := by
        rw [← hX]; exact (HRr.out.later ((Below.refl _ _).alloc (Nat.le_refl _) _)).cell P hP21
      rw [hX] at hX0 hX1 HST
      have HLen : Hid ((Lib.strCells (span (S.word M) mp A (posP A E j))).length ≤ 2688) := by
        show _ ≤ _
        rw [Lib.strCells_length, span_size]; omega
      have HTX : Hid (∀ w1, Below w.heap.size w w1 → Calls Try.prog 37 #[.pointer (some ⟨V.vb, 0, none⟩), .int .i64 X] w1 fun e w' => e = .returned (.tuple #[.string (blkT (S.word M) X), .int .i64 0]) ∧ Below w1.heap.size w1 w') := fun w1 hb => btext_any V S N L M X w1 (H.out.later hb) hX0 hX1
      obtain ⟨t, ht⟩ : ∃ t, blkT (S.word M) X = t := ⟨_, rfl⟩
      have hts : t.size = 128 := by rw [← ht]; exact blkT_size _ _
      have htI : (t.size : Int) = 128 := by omega
      rw [ht] at HTX HST
      have hjn : (j : Int) < (np : Int) := by omega
      have hFT0 : (F : Int) ≤ (T : Int) := by omega
      have hT128 : (T : Int) ≤ 128 := by omega
      have HBA2 : Hid (Below w.heap.size w (wr.alloc (.cells #[.int .i64 (P : Int), .int .i64 (F : Int), .int .i64 (T : Int)] 88))) := HBw.out.alloc HBw.out.size _
      clear hx hc hP hF hT hX hApos hPle hp1 hp2 ht hAE
      go_wp2_with fail
      refine Calls.mono (HTX.out _ HBA2.out) ?_
      rintro e w4 ⟨rfl, hb4⟩
      have q1 : w4.cell? ⟨wr.heap.size, 1, none⟩ = some (.int .i64 (F : Int)) := by
        rw [hb4.cell (p := ⟨wr.heap.size, 1, none⟩) (by simp), cell_of_row _ _ 1 _ _ _ (heap_alloc_new wr _)]; rfl
      have q2 : w4.cell? ⟨wr.heap.size, 2, none⟩ = some (.int .i64 (T : Int)) := by
        rw [hb4.cell (p := ⟨wr.heap.size, 2, none⟩) (by simp), cell_of_row _ _ 2 _ _ _ (heap_alloc_new wr _)]; rfl
      have hbw4 : Below wr.heap.size wr w4 := ((Below.refl _ _).alloc (Nat.le_refl _) _).trans (hb4.mono (by simp))
      have HU4 : Hid (Under w2.heap.size bb w2 w4) := HU.out.trans (Under.of_below (hbw4.mono HU.out.size))
      have HBl4 : Hid (Bldr w4 w2.heap.size bb (Lib.strCells (span (S.word M) mp A (posP A E j)))) := HBj.out.later hbw4
      clear hb4 hbw4 y0 x0 x1 x2
      go_wp2_with fail
      refine (write_own w2.heap.size bb _ (t.extract F T) w4 HBl4.out (by have := HLen.out; rw [ByteArray.size_extract]; omega) HC2.out HU4.out.size).mono ?_
      rintro e w5 ⟨rfl, hbl5, hu5⟩
      rw [strCells_app, HST.out] at hbl5
      have HBl5 : Hid (Bldr w5 w2.heap.size bb (Lib.strCells (span (S.word M) mp A (posP A E (j + 1))))) := hbl5
      have HU5 : Hid (Under w2.heap.size bb w2 w5) := HU4.out.trans hu5
      clear hbl5 hu5 q1 q2
      go_wp2
      go_roundw
      case rel => exact ⟨j + 1, by omega, by go_num, HBl5, HU5⟩
      case measure => simp [intOf]; omega
    · have hjn : ¬ (j : Int) < (np : Int) := by omega
      have hje : j = np := by omega
      have HBe : Hid (Bldr wr w2.heap.size bb (Lib.byteCells (span (S.word M) mp A E).data.toList)) := by
        have := HBj.out
        rw [hje, span_done _ _ _ _ _ HNP.out, Lib.strCells_eq] at this
        exact this
      obtain ⟨R, hR⟩ : ∃ R, span (S.word M) mp A E = R := ⟨_, rfl⟩
      rw [hR] at HBe
      have HRE : Hid (span (S.word M) mp A E = R) := hR
      clear hje hR
      go_wp2_with fail
      refine (string_own w2.heap.size bb R.data.toList wr HBe.out (Nat.le_of_lt HC2.out)).mono ?_
      rintro e w6 ⟨rfl, hb6⟩
      have HB6 : Hid (Below w.heap.size w w6) := HBw.out.trans (hb6.mono (Nat.le_trans HB0.out.size HWb.out))
      clear hb6
      go_wp2
      go_ret2
      refine ⟨?_, HB6.out⟩
      rw [HRE.out]
      rfl

end Go.Proofs.Ytdjnkibnnjobpaa
