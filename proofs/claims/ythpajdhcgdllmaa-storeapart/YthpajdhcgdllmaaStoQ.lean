/- The calls of one of two views beside one another; how they begin; bools that came in. -/
import Derived.Test.YthpajdhcgdllmaaStoP
import Derived.Test.YthpajdhcgdllmaaAr9
namespace Go.Proofs.Ythpajdhcgdllmaa
open Go.RowKit Go.Maps Go.ChangeMaps Go.ChangeShapes Go.WideShapes Go.ChangeAt Go.Deep Go.Joins
set_option linter.unusedVariables false

section
variable {w0 w w1 : World} {V : Nat → VLay} {S : Nat → Vw} {N : Nat} {L : Lay} {b4 b5 b6 : Nat} {x y : Nat → Value} {B C B' C' : Nat → List Int}
theorem Duo.cells (D : Duo w0 w V S N L b4 b5 b6 x y B C) : w.cell? ⟨b4, 0, none⟩ = some (.pointer (some ⟨(V 0).vb, 0, none⟩)) ∧ w.cell? ⟨b4, 1, none⟩ = some (.pointer (some ⟨(V 1).vb, 0, none⟩)) ∧ w.cell? ⟨b5, 0, none⟩ = some (x 0) ∧ w.cell? ⟨b5, 1, none⟩ = some (x 1) ∧ w.cell? ⟨b6, 0, none⟩ = some (y 0) ∧ w.cell? ⟨b6, 1, none⟩ = some (y 1) :=
  ⟨by rw [cell_of_row w b4 0 _ _ _ D.arr4]; rfl, by rw [cell_of_row w b4 1 _ _ _ D.arr4]; rfl, by rw [cell_of_row w b5 0 _ _ _ D.arr5]; rfl, by rw [cell_of_row w b5 1 _ _ _ D.arr5]; rfl, by rw [cell_of_row w b6 0 _ _ _ D.arr6]; rfl, by rw [cell_of_row w b6 1 _ _ _ D.arr6]; rfl⟩
theorem Duo.avoid (D : Duo w0 w V S N L b4 b5 b6 x y B C) (T : Took S B C) {k j : Nat} (hk : k < 2) (hj : j < 2) {xa ya : Option Addr} {xc yc : Nat} (hx : x j = .slice xa (B j).length xc) (hy : y j = .slice ya (C j).length yc) :
    Calls Try.prog 11 #[.pointer (some ⟨(V k).vb, 0, none⟩), .slice xa (B j).length xc, .slice ya (C j).length yc] w fun e w' => e = .returned (.tuple #[]) ∧ ∃ V' S', Duo w0 w' V' S' N L b4 b5 b6 x y B C ∧ Took S' B C ∧ (∀ i, (V' i).vb = (V i).vb) ∧
      (∀ z, 0 ≤ z → z < 96 → freshB (S' k) M0 z = (!decide (z ∈ B k) && !decide (z ∈ B j))) ∧ (∀ z, 2 ≤ z → z < 24 → freeN (S' k) M0 z = (!decide (z ∈ C k) && !decide (z ∈ C j))) := by
  obtain ⟨xa', xc', hx', _, hxi⟩ := row_ints (D.rowB j hj)
  obtain ⟨ya', yc', hy', _, hyi⟩ := row_ints (D.rowC j hj)
  rw [hx] at hx'
  rw [hy] at hy'
  cases hx'
  cases hy'
  have lb := T.lenB hj
  have lc := T.lenC hj
  refine (vavoid_any (V k) (S k) N xa ya _ xc _ yc _ _ w (D.view k hk) hxi (fun i hi => ?_) (by omega) (by unfold maxLen; omega) hyi (fun i hi => ?_) (by omega) (by unfold maxLen; omega)).mono ?_
  · have := T.bIn j hj ((B j).getD i 0) (by simp [hi])
    exact WalkArith.wf_i64 (by omega)
  · have := T.cIn j hj ((C j).getD i 0) (by simp [hi])
    exact WalkArith.wf_i64 (by omega)
  rintro e w' ⟨g1, g2, rfl, hg1, hg2, hv, ho⟩
  refine ⟨rfl, _, _, D.viewStep hk hv (Nat.le_refl _) ho (by simp [VLay.all, VLay.blocks]) rfl rfl ?_, T.same fun i hi z => ?_, fun i => ?_, fun z h0 h1 => ?_, fun z h0 h1 => ?_⟩
  · intro z hz
    simp only [VLay.shun, VLay.all, VLay.blocks, List.mem_append, List.mem_cons, List.not_mem_nil, or_false, Option.mem_toList, Option.some.injEq] at hz ⊢
    rcases hz with (hz | hz) | hz
    · exact .inl (.inl (.inl hz))
    · right; omega
    · right; omega
  · by_cases e : i = k
    · subst e; rw [setF_same]; rfl
    · rw [setF_other _ _ e]
  · by_cases e : i = k
    · subst e; rw [setF_same]; rfl
    · rw [setF_other _ _ e]
  · rw [setF_same]; exact T.fresh hk hj z h0 h1
  · rw [setF_same]; exact T.freeN hk hj z h0 h1
theorem Duo.take (D : Duo w0 w V S N L b4 b5 b6 x y B C) (T : Took S B C) {k j : Nat} (hk : k < 2) (hj : j < 2) (hkj : k ≠ j) (hN : N < 700000000) (hf : ∀ z, 0 ≤ z → z < 96 → freshB (S k) M0 z = (!decide (z ∈ B k) && !decide (z ∈ B j))) :
    Calls Try.prog 13 #[.pointer (some ⟨(V k).vb, 0, none⟩), .int .i64 1] w fun e w' =>
      (∃ q : Nat, e = .returned (.tuple #[.int .i64 q, .int .i64 0]) ∧ ∃ S', Duo w0 w' V S' (N + 17) L b4 b5 b6 x y B C ∧ Took S' (setF B k (B k ++ [(q : Int)])) C) ∨
      (e = .returned (.tuple #[.int .i64 0, .int .i64 9]) ∧ (B 0).length + (B 1).length = 96 ∧ Duo w0 w' V S N L b4 b5 b6 x y B C) := by
  have hall : ∀ i, i < 2 → i = k ∨ i = j := fun i hi => by omega
  rcases first_or (fun z => freshB (S k) M0 (z : Int)) 0 96 with ⟨q, _, hq, hfq, hlq⟩ | hnone
  · refine (take_yes (V k) (S k) N L M0 1 q w (D.on hk) (by omega) (by omega) (by omega) (by omega) hfq (fun z hz => hlq z (Nat.zero_le _) hz)).mono ?_
    rintro e w' ⟨rfl, ho, hx⟩
    have hq2 := hf q (by omega) (by omega)
    rw [hfq] at hq2
    simp at hq2
    refine .inl ⟨q, rfl, _, ?_, T.take hk (by omega) fun i hi => ?_⟩
    · have := D.viewStep hk ho.view (by omega) hx (fun z hz => (V k).blocks_all z hz) rfl rfl (fun z hz => .inl hz)
      have e : setF V k (V k) = V := by funext i; by_cases e : i = k <;> simp [setF, e]
      rw [e] at this
      exact this
    · rcases hall i hi with rfl | rfl
      · exact hq2.1
      · exact hq2.2
  · refine (take_full (V k) (S k) N L M0 1 w (D.on hk) (by omega) (by omega) (fun z hz => hnone z (Nat.zero_le _) (by omega))).mono ?_
    rintro e w' ⟨rfl, hb⟩
    refine .inr ⟨rfl, ?_, D.later hb⟩
    refine full_len (a := 0) (n := 96) (T.bNd 0 (by omega)) (T.bNd 1 (by omega)) (T.bAp 0 1 (by omega) (by omega) (by omega)) (fun z hz => by have := T.bIn 0 (by omega) z hz; omega) (fun z hz => by have := T.bIn 1 (by omega) z hz; omega) fun z z0 z1 => ?_
    have := hnone z.toNat (Nat.zero_le _) (by omega)
    have e := hf z z0 (by omega)
    simp only [show ((z.toNat : Nat) : Int) = z by omega] at this
    rw [this] at e
    have e2 : z ∈ B k ∨ z ∈ B j := by
      by_cases h1 : z ∈ B k
      · exact .inl h1
      · by_cases h2 : z ∈ B j
        · exact .inr h2
        · simp [h1, h2] at e
    rcases (by omega : k = 0 ∧ j = 1 ∨ k = 1 ∧ j = 0) with ⟨rfl, rfl⟩ | ⟨rfl, rfl⟩
    · exact e2
    · exact e2.symm
theorem Duo.node (D : Duo w0 w V S N L b4 b5 b6 x y B C) (T : Took S B C) {k j : Nat} (hk : k < 2) (hj : j < 2) (hkj : k ≠ j) (hN : N < 700000000) (hf : ∀ z, 2 ≤ z → z < 24 → freeN (S k) M0 z = (!decide (z ∈ C k) && !decide (z ∈ C j))) :
    Calls Try.prog 12 #[.pointer (some ⟨(V k).vb, 0, none⟩), .int .i64 2] w fun e w' =>
      (∃ q : Nat, e = .returned (.tuple #[.int .i64 q, .int .i64 0]) ∧ ∃ S', Duo w0 w' V S' (N + 17) L b4 b5 b6 x y B C ∧ Took S' B (setF C k (C k ++ [(q : Int)]))) ∨
      (e = .returned (.tuple #[.int .i64 0, .int .i64 9]) ∧ (C 0).length + (C 1).length = 22 ∧ Duo w0 w' V S N L b4 b5 b6 x y B C) := by
  have hall : ∀ i, i < 2 → i = k ∨ i = j := fun i hi => by omega
  rcases first_or (fun z => Go.Proofs.Ythpajdhcgdllmaa.freeN (S k) M0 (z : Int)) 2 22 with ⟨q, h2, hq, hfq, hlq⟩ | hnone
  · refine (node_yes (V k) (S k) N L M0 2 w (D.on hk) (.inr (.inl rfl)) q _ (by omega) h2 (by omega) hfq (fun z h2 hz => hlq z h2 hz) rfl).mono ?_
    rintro e w' ⟨rfl, ho, hx⟩
    have hq2 := hf q (by omega) (by omega)
    rw [hfq] at hq2
    simp at hq2
    refine .inl ⟨q, rfl, _, ?_, T.node (v := IntKind.u64.wrap ((S k).word M0 (8 + 8 * (q : Int) + 1) + 1)) hk h2 (by omega) fun i hi => ?_⟩
    · have := D.viewStep hk (ho.view.mono (show N + 10 ≤ N + 17 by omega)) (by omega) hx (fun z hz => (V k).blocks_all z hz) rfl rfl (fun z hz => .inl hz)
      have e : setF V k (V k) = V := by funext i; by_cases e : i = k <;> simp [setF, e]
      rw [e] at this
      exact this
    · rcases hall i hi with rfl | rfl
      · exact hq2.1
      · exact hq2.2
  · refine (node_full (V k) (S k) N L M0 2 w (D.on hk) (.inr (.inl rfl)) (fun z h2 hz => hnone z h2 (by omega))).mono ?_
    rintro e w' ⟨rfl, hb⟩
    refine .inr ⟨rfl, ?_, D.later hb⟩
    refine full_len (a := 2) (n := 22) (T.cNd 0 (by omega)) (T.cNd 1 (by omega)) (T.cAp 0 1 (by omega) (by omega) (by omega)) (fun z hz => by have := T.cIn 0 (by omega) z hz; omega) (fun z hz => by have := T.cIn 1 (by omega) z hz; omega) fun z z0 z1 => ?_
    have := hnone z.toNat (by omega) (by omega)
    have e := hf z z0 (by omega)
    simp only [show ((z.toNat : Nat) : Int) = z by omega] at this
    rw [this] at e
    have e2 : z ∈ C k ∨ z ∈ C j := by
      by_cases h1 : z ∈ C k
      · exact .inl h1
      · by_cases h2 : z ∈ C j
        · exact .inr h2
        · simp [h1, h2] at e
    rcases (by omega : k = 0 ∧ j = 1 ∨ k = 1 ∧ j = 0) with ⟨rfl, rfl⟩ | ⟨rfl, rfl⟩
    · exact e2
    · exact e2.symm
theorem Duo.arr5' (D : Duo w0 w V S N L b4 b5 b6 x y B C) {k : Nat} (hk : k < 2) {o : Obj} (hg : (w.alloc o).grownBy w1 (x k).ownBlock) : w1.heap[b5]? = some (.cells #[x 0, x 1] 32 (0, 0)) :=
  (D.keep (((Only.refl (x k).ownBlock.toList _).alloc o).grown hg (fun j e => by simp [e])) (i := 6 + k) (by rw [duoF_6 hk]; exact fun z h => h) (j := 4) (by omega) b5 (by simp [duoF])).trans D.arr5
theorem Duo.arr6' (D : Duo w0 w V S N L b4 b5 b6 x y B C) {k : Nat} (hk : k < 2) {o : Obj} (hg : (w.alloc o).grownBy w1 (y k).ownBlock) : w1.heap[b6]? = some (.cells #[y 0, y 1] 32 (0, 0)) :=
  (D.keep (((Only.refl (y k).ownBlock.toList _).alloc o).grown hg (fun j e => by simp [e])) (i := 8 + k) (by rw [duoF_8 hk]; exact fun z h => h) (j := 5) (by omega) b6 (by simp [duoF])).trans D.arr6
end

theorem Duo.mono {w0 w : World} {V : Nat → VLay} {S : Nat → Vw} {N N1 : Nat} {L : Lay} {b4 b5 b6 : Nat} {x y : Nat → Value} {B C : Nat → List Int} (D : Duo w0 w V S N L b4 b5 b6 x y B C) (h : N ≤ N1) : Duo w0 w V S N1 L b4 b5 b6 x y B C :=
  ⟨D.bel, fun k hk => (D.view k hk).mono h, D.mem, D.mb, D.arr4, D.arr5, D.arr6, D.rowB, D.rowC, D.apart, D.low⟩
theorem Duo.drewN {w0 w : World} {V : Nat → VLay} {S : Nat → Vw} {N : Nat} {L : Lay} {b4 b5 b6 : Nat} {x y : Nat → Value} {B C : Nat → List Int} (D : Duo w0 w V S N L b4 b5 b6 x y B C) (n : Nat) : Duo w0 (w.drewN n) V S N L b4 b5 b6 x y B C := D.later (below_drewN (Below.refl _ _) n)

theorem infoI : (Try.prog.info? 3).map (fun i => (i.zero, i.size, i.bytes)) = some (some (.int .i64 0), 1, 8) := by kernel_rfl
def rows0 : Nat → List Int := fun _ => []
def nil0 : Nat → Value := fun _ => .slice none 0 0
def new0 : Nat → Vw := fun _ => Vw.new
def two0 (V0 V1 : VLay) : Nat → VLay := fun i => if i = 0 then V0 else V1
/-- How two views begin. -/
theorem duo_begin {w0 w2 wa w3 w3' w4 w4' : World} {L : Lay} {V0 V1 : VLay} (B2 : Below w0.heap.size w0 w2) (hm : MemIs w2 L M0) (hL : ∀ j ∈ L.blocks, w0.heap.size ≤ j)
    (ea : wa = w2.alloc (.cells #[.pointer none, .pointer none] 29)) (e0 : newLay L.mb wa.heap.size = V0) (h3 : ViewIs w3 V0 Vw.new 0) (b3 : Below wa.heap.size wa w3) (e3 : w3' = w3.setCell ⟨w2.heap.size, 0, none⟩ (.pointer (some ⟨V0.vb, 0, none⟩)))
    (e1 : newLay L.mb w3'.heap.size = V1) (h4 : ViewIs w4 V1 Vw.new 0) (b4 : Below w3'.heap.size w3' w4) (e4 : w4' = w4.setCell ⟨w2.heap.size, 1, none⟩ (.pointer (some ⟨V1.vb, 0, none⟩))) :
    Duo w0 ((w4'.alloc (.cells #[.slice none 0 0, .slice none 0 0] 32)).alloc (.cells #[.slice none 0 0, .slice none 0 0] 32)) (two0 V0 V1) new0 0 L w2.heap.size w4'.heap.size (w4'.heap.size + 1) nil0 nil0 rows0 rows0 := by
  have sa : wa.heap.size = w2.heap.size + 1 := by rw [ea]; simp
  have s3 := b3.size
  have s3' : w3'.heap.size = w3.heap.size := by rw [e3]; simp [World.setCell]
  have s4 := b4.size
  have s4' : w4'.heap.size = w4.heap.size := by rw [e4]; simp [World.setCell]
  have sB := B2.size
  have hV0 : ∀ z ∈ V0.all, wa.heap.size ≤ z ∧ z < w3.heap.size := fun z hz => ⟨by rw [← e0] at hz; exact newLay_all.2 (Nat.le_refl _) z hz, h3.all_lt z hz⟩
  have hV1 : ∀ z ∈ V1.all, w3'.heap.size ≤ z ∧ z < w4.heap.size := fun z hz => ⟨by rw [← e1] at hz; exact newLay_all.2 (Nat.le_refl _) z hz, h4.all_lt z hz⟩
  have hLL : ∀ z ∈ L.blocks, z < w2.heap.size := hm.all_lt
  have a4 : wa.heap[w2.heap.size]? = some (.cells #[.pointer none, .pointer none] 29 (0, 0)) := by rw [ea]; exact heap_alloc_new _ _
  have a4' : w3.heap[w2.heap.size]? = some (.cells #[.pointer none, .pointer none] 29 (0, 0)) := (b3.block _ (by omega)).trans a4
  have a4'' := heap_setCell_same w3 w2.heap.size 0 _ _ (.pointer (some ⟨V0.vb, 0, none⟩)) a4'
  rw [← e3] at a4''
  have a5 := (b4.block w2.heap.size (by omega)).trans a4''
  have a5' := heap_setCell_same w4 w2.heap.size 1 _ _ (.pointer (some ⟨V1.vb, 0, none⟩)) a5
  rw [← e4] at a5'
  obtain ⟨X, hX⟩ : ∃ X, ((w4'.alloc (.cells #[.slice none 0 0, .slice none 0 0] 32)).alloc (.cells #[.slice none 0 0, .slice none 0 0] 32)) = X := ⟨_, rfl⟩
  have sX : X.heap.size = w4'.heap.size + 2 := by rw [← hX]; simp
  have kX : ∀ z, z < w4'.heap.size → X.heap[z]? = w4'.heap[z]? := fun z hz => by rw [← hX, Below.heap_alloc _ _ _ (by simp; omega), Below.heap_alloc _ _ _ hz]
  have k4 : ∀ z, z < w3'.heap.size → z ≠ w2.heap.size → X.heap[z]? = w3'.heap[z]? := fun z hz hn => by rw [kX z (by omega), e4, Below.heap_setCell _ _ _ _ hn]; exact b4.block z hz
  have k3 : ∀ z, z < w3.heap.size → z ≠ w2.heap.size → X.heap[z]? = w3.heap[z]? := fun z hz hn => by rw [k4 z (by omega) hn, e3, Below.heap_setCell _ _ _ _ hn]
  have k2 : ∀ z, z < w2.heap.size → X.heap[z]? = w2.heap[z]? := fun z hz => by rw [k3 z (by omega) (by omega), b3.block z (by omega), ea, Below.heap_alloc _ _ _ hz]
  rw [hX]
  have hpart : ∀ i, ∀ z ∈ duoF (two0 V0 V1) L w2.heap.size w4'.heap.size (w4'.heap.size + 1) nil0 nil0 i, (w0.heap.size ≤ z ∧ z < X.heap.size) ∧ i = (if z < w2.heap.size then 2 else if z = w2.heap.size then 3 else if z < w3.heap.size then 0 else if z < w4'.heap.size then 1 else if z = w4'.heap.size then 4 else 5) := by
    intro i z hz
    match i, hz with
    | 0, hz =>
      have := hV0 z hz
      rw [if_neg (by omega), if_neg (by omega), if_pos (by omega)]; exact ⟨by omega, rfl⟩
    | 1, hz =>
      have := hV1 z hz
      rw [if_neg (by omega), if_neg (by omega), if_neg (by omega), if_pos (by omega)]; exact ⟨by omega, rfl⟩
    | 2, hz =>
      have := hLL z hz
      have := hL z hz
      rw [if_pos (by omega)]; exact ⟨by omega, rfl⟩
    | 3, hz =>
      simp [duoF] at hz
      rw [if_neg (by omega), if_pos (by omega)]; exact ⟨by omega, rfl⟩
    | 4, hz =>
      simp [duoF] at hz
      rw [if_neg (by omega), if_neg (by omega), if_neg (by omega), if_neg (by omega), if_pos (by omega)]; exact ⟨by omega, rfl⟩
    | 5, hz =>
      simp [duoF] at hz
      rw [if_neg (by omega), if_neg (by omega), if_neg (by omega), if_neg (by omega), if_neg (by omega)]; exact ⟨by omega, rfl⟩
    | 6, hz => simp [duoF, nil0, Value.ownBlock] at hz
    | 7, hz => simp [duoF, nil0, Value.ownBlock] at hz
    | 8, hz => simp [duoF, nil0, Value.ownBlock] at hz
    | 9, hz => simp [duoF, nil0, Value.ownBlock] at hz
    | n + 10, hz => simp [duoF] at hz
  refine ⟨⟨?_, ?_, ?_, ?_, fun z hz => ?_⟩, fun k hk => ?_, hm.of_blocks fun z hz _ => k2 z (hLL z hz), fun k hk => ?_, ?_, ?_, ?_, fun k hk => World.ownsRow_nil _ _ _ _, fun k hk => World.ownsRow_nil _ _ _ _, fun i j hij z hz hz2 => hij ((hpart i z hz).2.trans (hpart j z hz2).2.symm), fun i z hz => (hpart i z hz).1⟩
  · rw [← hX]; show w4'.os = _; rw [e4]; show w4.os = _; rw [b4.os, e3]; show w3.os = _; rw [b3.os, ea]; exact B2.os
  · rw [← hX]; show w4'.tape = _; rw [e4]; show w4.tape = _; rw [b4.tape, e3]; show w3.tape = _; rw [b3.tape, ea]; exact B2.tape
  · rw [← hX]; show w4'.output = _; rw [e4]; show w4.output = _; rw [b4.output, e3]; show w3.output = _; rw [b3.output, ea]; exact B2.output
  · omega
  · rw [k2 z (by omega)]; exact B2.block z hz
  · rcases (by omega : k = 0 ∨ k = 1) with rfl | rfl
    · exact h3.of_blocks fun z hz _ => k3 z (hV0 z hz).2 (by have := (hV0 z hz).1; omega)
    · refine h4.of_blocks fun z hz _ => ?_
      have := hV1 z hz
      rw [kX z (by omega), e4, Below.heap_setCell _ _ _ _ (show z ≠ w2.heap.size by omega)]
  · rcases (by omega : k = 0 ∨ k = 1) with rfl | rfl
    · show V0.mb = _; rw [← e0]; rfl
    · show V1.mb = _; rw [← e1]; rfl
  · rw [kX _ (by omega), a5']; rfl
  · rw [← hX, Below.heap_alloc _ _ _ (by simp)]; exact heap_alloc_new _ _
  · rw [← hX]
    have : (w4'.alloc (.cells #[.slice none 0 0, .slice none 0 0] 32)).heap.size = w4'.heap.size + 1 := by simp
    rw [← this]; exact heap_alloc_new _ _

/-- A slice of bools that came in. -/
structure BoolsIn (W : World) (a : Option Addr) (cap : Nat) (ks : List Bool) : Prop where
  le : ks.length ≤ cap
  max : cap ≤ 9223372036854775807
  at_ : ks = [] ∨ ∃ b o, a = some ⟨b, o, none⟩ ∧ b < W.heap.size ∧ ∀ i, i < ks.length → W.cell? ⟨b, o + i, none⟩ = some (.bool (ks.getD i false))
section
variable {H : Type} {enc : TypeId × Value → H} {W : World}
theorem open_bools {v : Value} {d : DataW H} {p : List MemPlace} {a : Option Addr} {len cap : Nat} (hv : v = .slice a len cap) (h : DataW.Trod enc Try.prog W 0 (fun _ => true) true 22 v d p) : ∃ ks : List Bool, ks.length = len ∧ BoolsIn W a cap ks := by
  subst hv
  obtain ⟨fuel, hf⟩ := h
  rcases open_slice1 Try.underlying22 (by kernel_rfl) hf with ⟨hc, _⟩ | ⟨x, l, c, m, n', Vv, D, Pl, hc, _, hl, hm, hmm, _, hx⟩
  · cases hc
    exact ⟨[], rfl, by simp, by simp, .inl rfl⟩
  · cases hc
    have hm' : m = cap := by simpa using hmm
    subst hm'
    have hB : ∀ i, i < m → ∃ b : Bool, Vv i = .bool b := fun i hi => by
      obtain ⟨b, hb, _⟩ := DataW.trod_bool Try.underlying4 (hx i hi).2
      exact ⟨b, by simpa using hb⟩
    obtain ⟨Bo, hB'⟩ := choose_lt hB
    refine ⟨(List.range len).map Bo, by simp, by simpa using hl, by unfold maxLen at hm; omega, ?_⟩
    by_cases h0 : len = 0
    · left; subst h0; rfl
    · right
      have c0 := (hx 0 (by omega)).1
      have e0 : x = ⟨x.block, x.off, none⟩ := spot_none (by simpa [Addr.add] using c0)
      refine ⟨x.block, x.off, by rw [← e0], ?_, ?_⟩
      · exact World.block_lt_of_cell? W x (by simpa [Addr.add] using c0)
      · intro i hi
        simp at hi
        have := (hx i (by omega)).1
        rw [e0, add_none, hB' i (by omega)] at this
        rw [this]
        simp [hi]
end

end Go.Proofs.Ythpajdhcgdllmaa
