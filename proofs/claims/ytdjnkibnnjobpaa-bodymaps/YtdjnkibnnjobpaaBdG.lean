/- Contracts of keepMore and Keep: a map is kept. -/
import Derived.Test.YtdjnkibnnjobpaaBdD
namespace Go.Proofs.Ytdjnkibnnjobpaa
open Go.RowKit Go.Maps Go.ChangeMaps

/-- The block g is a row of n words. -/
def URow (w : World) (g n : Nat) (f : Nat → Int) : Prop := w.heap[g]? = some (.cells (rowI f n).toArray 23 (0, 0))
section
variable {w w' : World} {g n : Nat} {f : Nat → Int}
theorem URow.cell (h : URow w g n f) (j : Nat) (hj : j < n) : w.cell? ⟨g, j, none⟩ = some (.int .u64 (f j)) := by
  rw [cell_of_row w g j _ _ _ h]
  simpa using rowI_at f n j hj
theorem URow.frozen (h : URow w g n f) (j : Nat) : w.frozen? ⟨g, j, none⟩ = false := frozen_of_row w g j _ _ h
theorem URow.lt (h : URow w g n f) : g < w.heap.size := (Array.getElem?_eq_some_iff.1 h).1
theorem URow.set (h : URow w g n f) (q : Nat) (v : Int) : URow (w.setCell ⟨g, q, none⟩ (.int .u64 v)) g n (updN f q v) := by
  show (w.setCell ⟨g, q, none⟩ (.int .u64 v)).heap[g]? = _
  rw [heap_setCell_same w g q _ _ _ h, set_rowI]
end
theorem IntsAt.only {w w' : World} {a : Option Addr} {n : Nat} {f : Nat → Int} {X : List Nat} (h : IntsAt w a n f) (ho : Only X w w') (hX : ∀ b, a.map (·.block) = some b → b ∉ X) : IntsAt w' a n f := by
  rcases h with h | ⟨b, o, rfl, hlt, hc⟩
  · exact .inl h
  · have hb := ho.block b hlt (hX b rfl)
    exact .inr ⟨b, o, rfl, by have := ho.size; omega, fun i hi => (World.cell?_of_block (a := ⟨b, o + i, none⟩) hb).trans (hc i hi)⟩
/-- What changes in new blocks alone is no change. -/
theorem Only.fresh {X Y : List Nat} {w w1 w2 : World} (h : Only X w w1) (k : Only Y w1 w2) (hY : ∀ j ∈ Y, w.heap.size ≤ j) : Only X w w2 :=
  ⟨k.os.trans h.os, k.tape.trans h.tape, k.output.trans h.output, Nat.le_trans h.size k.size, fun j hj hn => (k.block j (by have := h.size; omega) (fun hm => by have := hY j hm; omega)).trans (h.block j hj hn)⟩
theorem On.fresh {w w' : World} {V : VLay} {S : Vw} {N : Nat} {L : Lay} {M : Mem} {X : List Nat} {B : Nat} (h : On w V S N L M) (ho : Only X w w') (hX : ∀ j ∈ X, B ≤ j) (hV : ∀ j ∈ V.all, j < B) (hL : ∀ j ∈ L.blocks, j < B) : On w' V S N L M :=
  ⟨h.view.kept ho (fun j hj hx => by have := hV j hj; have := hX j hx; omega), h.mem.kept ho (fun j hj hx => by have := hL j hj; have := hX j hx; omega), h.mb, h.vl⟩
theorem Try.info22g : (Try.prog.info? 23).map (fun i => (i.zero, i.size, i.bytes)) = some (some (.int .u64 0), 1, 8) := by kernel_rfl
/-- The words that tell the first k of More's places. -/
def moreTo (f : Nat → Int) (k : Nat) : Nat → Int := fun i => if i < k then f (5 + i) + 1 else 0
theorem moreTo_zero (f : Nat → Int) : moreTo f 0 = fun _ => 0 := by
  funext i
  unfold moreTo
  rw [if_neg (by omega)]
theorem moreTo_succ (f : Nat → Int) (k : Nat) : updN (moreTo f k) k (f (5 + k) + 1) = moreTo f (k + 1) := by
  funext i
  unfold updN moreTo
  by_cases e : i = k
  · subst e; rw [if_pos rfl, if_pos (by omega)]
  · rw [if_neg e]
    by_cases e2 : i < k
    · rw [if_pos e2, if_pos (by omega)]
    · rw [if_neg e2, if_neg (by omega)]
/-- More's words of a map. -/
def moreRow (f : Nat → Int) : Nat → Int := blockRow 16 fun i => f (5 + i) + 1
theorem moreRow_at (f : Nat → Int) (i : Nat) (hi : i < 16) : moreRow f i = f (5 + i) + 1 := by unfold moreRow blockRow; rw [if_pos hi]
/-- What becomes of More's block. -/
def KMore (S : Vw) (M : Mem) (node m : Int) (f : Nat → Int) (mr er : Int) (S' : Vw) : Prop :=
  (allH (fun i => f (5 + i)) 16 = true ∧ m = -1 ∧ mr = -1 ∧ er = 0 ∧ S' = S) ∨
  (allH (fun i => f (5 + i)) 16 = true ∧ m ≠ -1 ∧ mr = -1 ∧ er = 0 ∧ S' = S.drop m) ∨
  (allH (fun i => f (5 + i)) 16 = false ∧ m = -1 ∧ er = 0 ∧ ∃ q : Nat, q < 96 ∧ freshB S M (q : Int) = true ∧ (∀ j : Nat, j < q → freshB S M (j : Int) = false) ∧ mr = q ∧ S' = (S.give q node).setB q (moreRow f)) ∨
  (allH (fun i => f (5 + i)) 16 = false ∧ m = -1 ∧ er = 9 ∧ mr = -1 ∧ (∀ j : Nat, j < 96 → freshB S M (j : Int) = false) ∧ S' = S) ∨
  (allH (fun i => f (5 + i)) 16 = false ∧ m ≠ -1 ∧ er = 0 ∧ mr = m ∧ S' = S.setB m (moreRow f))

set_option maxHeartbeats 4000000 in
set_option maxRecDepth 100000 in
theorem keepMore_any (V : VLay) (S : Vw) (N : Nat) (L : Lay) (M : Mem) (node m : Int) (G o c : Nat) (f : Nat → Int) (w : World) (h : On w V S N L M) (hN : N < 700000000) (n0 : 0 ≤ node) (n1 : node < 24) (m0 : -1 ≤ m) (m1 : m < 96) (hg : IntsAt w (some ⟨G, o, none⟩) 16 (fun i => f (5 + i))) (hGV : G ∉ V.all) (hf : ∀ i, i < 21 → -1 ≤ f i ∧ f i < 96)
    (ho : allH (fun i => f (5 + i)) 16 = true → m ≠ -1 → S.word M (200 + m) ≠ 0) :
    Calls Try.prog 35 #[.pointer (some ⟨V.vb, 0, none⟩), .int .i64 node, .int .i64 m, .slice (some ⟨G, o, none⟩) 16 c] w fun e w' => ∃ mr er S' N', e = .returned (.tuple #[.int .i64 mr, .int .i64 er]) ∧ KMore S M node m f mr er S' ∧ On w' V S' N' L M ∧ N' ≤ N + 33 ∧ Only V.blocks w w' := by
  obtain ⟨i0, hi, hz0, hz1, hz2⟩ := info_parts Try.info22g
  have H : Hid (On w V S N L M) := h
  have HF : Hid (∀ i, i < 21 → -1 ≤ f i ∧ f i < 96) := hf
  have HI : Hid (IntsAt w (some ⟨G, o, none⟩) 16 (fun i => f (5 + i))) := hg
  have HGV : Hid (G ∉ V.all) := hGV
  have HA : Hid (Calls Try.prog 46 #[.slice (some ⟨G, o, none⟩) 16 c] w fun e w' => e = .returned (.bool (allH (fun i => f (5 + i)) 16)) ∧ w' = w) := allHoles_any _ 16 c _ w HI.out (by omega)
  have HO : Hid (allH (fun i => f (5 + i)) 16 = true → m ≠ -1 → S.word M (200 + m) ≠ 0) := ho
  obtain ⟨a, ha⟩ : ∃ a, allH (fun i => f (5 + i)) 16 = a := ⟨_, rfl⟩
  have HAL : Hid (allH (fun i => f (5 + i)) 16 = a) := ha
  rw [ha] at HA HO
  clear h hf hg hGV ho ha
  cases a with
  | true =>
    by_cases hm : m = -1
    · subst hm
      go_enter Try.func35, Try.ntmps35
      go_wp2_with (first
        | (go_at_call 46; refine Calls.mono (Hid.out HA) ?_; rintro e w' ⟨rfl, hw⟩; obtain rfl := hw.symm)
        | go_in)
      go_ret2
      exact ⟨_, _, S, N, rfl, .inl ⟨HAL.out, rfl, rfl, rfl, rfl⟩, H.out, by omega, Only.refl _ _⟩
    · have hme : (m == -1) = false := by simpa using hm
      have HM : Hid (m ≠ -1) := hm
      have hm0 : 0 ≤ m := by omega
      have hx := HO.out rfl hm
      clear hm
      go_enter Try.func35, Try.ntmps35
      go_wp2_with (first
        | (go_at_call 46; refine Calls.mono (Hid.out HA) ?_; rintro e w' ⟨rfl, hw⟩; obtain rfl := hw.symm)
        | (go_at_call 48; refine (drop_yes V S N L M m _ H.out (by omega) (by omega) m1 hx).mono ?_; rintro e w3 ⟨rfl, h3, ho3⟩; have H3 : Hid (On w3 V (S.drop m) (N + 1) L M) := h3; have HO3 : Hid (Only V.blocks w w3) := ho3; clear h3 ho3)
        | go_in)
      go_ret2
      exact ⟨_, _, S.drop m, N + 1, rfl, .inr (.inl ⟨HAL.out, HM.out, rfl, rfl, rfl⟩), H3.out, by omega, HO3.out⟩
  | false =>
    by_cases hm : m = -1
    · subst hm
      rcases first_or (fun j => freshB S M (j : Int)) 0 96 with ⟨q, _, hq, hp, hl⟩ | hl
      · have HT : Hid _ := take_yes V S N L M node q w H.out (by omega) n0 n1 (by omega) hp (fun j hj => hl j (by omega) hj)
        have HP : Hid (freshB S M (q : Int) = true) := hp
        have HL : Hid (∀ j : Nat, j < q → freshB S M (j : Int) = false) := fun j hj => hl j (by omega) hj
        clear hp hl
        go_enter Try.func35, Try.ntmps35
        go_wp2_with (first
          | (go_at_call 46; refine Calls.mono (Hid.out HA) ?_; rintro e w' ⟨rfl, hw⟩; obtain rfl := hw.symm)
          | (go_at_call 49; refine Calls.mono (Hid.out HT) ?_; rintro e w3 ⟨rfl, h3, ho3⟩; have H3 : Hid (On w3 V (S.give q node) (N + 17) L M) := h3; have HO3 : Hid (Only V.blocks w w3) := ho3; have HI3 : Hid (IntsAt w3 (some ⟨G, o, none⟩) 16 (fun i => f (5 + i))) := HI.out.only ho3 (fun b hb hh => by simp at hb; subst hb; exact HGV.out (V.blocks_all _ hh)); clear h3 ho3)
          | (at_make; refine wpList_make_full _ rfl _ _ 30 rfl w3.heap.size 23 i0 (.int .u64 0) 1 Try.underlying30 hi hz0 hz1 _ _ _ _ 16 rfl rfl rfl rfl ?b2 ?b3 (Nat.le_refl _) ?_))
        case b2 => rw [hz2]; omega
        case b3 => unfold maxLen; omega
        intro w5 hown5 hgrow5
        obtain ⟨Q, hQ⟩ : ∃ Q, w3.heap.size = Q := ⟨_, rfl⟩
        have HQ : Hid (w3.heap.size = Q) := hQ
        have HB5 : Hid (Below w3.heap.size w3 w5) := (Below.refl _ _).grown hgrow5 (Nat.le_refl _) (fun k h => by cases h)
        rw [hQ] at hown5
        have HU5 : Hid (URow w5 Q 16 (fun _ => 0)) := made_row hown5
        have HI5 : Hid (IntsAt w5 (some ⟨G, o, none⟩) 16 (fun i => f (5 + i))) := HI3.out.later (Nat.le_refl _) HB5.out
        have HLT : Hid (G ≠ Q) := by
          show _ ≠ _
          rcases HI3.out with h0 | ⟨b', o', e, hl, _⟩
          · omega
          · cases e; omega
        clear hown5 hgrow5 hQ
        rw [HQ.out]
        go_wp2
        go_loopw [13, 14, 46] (fun _ _ i wr => ∃ j : Nat, j ≤ 16 ∧ i = .int .i64 j ∧ Hid (URow wr Q 16 (moreTo f j)) ∧ Hid (Only [Q] w5 wr)) (fun _ _ i _ => 16 - (intOf i).toNat)
        case atStart => exact ⟨0, by omega, rfl, by show URow _ _ _ _; rw [moreTo_zero]; exact HU5.out, Only.refl _ _⟩
        case round =>
          obtain ⟨j, hj, rfl, HR, HO⟩ := hrel
          by_cases hlt : j < 16
          · have hjn : (j : Int) < 16 := by omega
            obtain ⟨b', o', e, hl, hc⟩ := HI5.out.resolve_left (by omega)
            cases e
            have x1 : wr.cell? ⟨G, o + j, none⟩ = some (.int .i64 (f (5 + j))) := (World.cell?_of_block (a := ⟨G, o + j, none⟩) (HO.out.block G hl (by simp [HLT.out]))).trans (hc j hlt)
            have x2 := HR.out.cell j hlt
            have x3 := HR.out.frozen j
            obtain ⟨y1, y2⟩ := HF.out (5 + j) (by omega)
            have HS : Hid (updN (moreTo f j) j (f (5 + j) + 1) = moreTo f (j + 1)) := moreTo_succ f j
            obtain ⟨X, hX⟩ : ∃ X, f (5 + j) = X := ⟨_, rfl⟩
            obtain ⟨Y, hY⟩ : ∃ Y, moreTo f j j = Y := ⟨_, rfl⟩
            rw [hX] at x1 y1 y2 HS
            rw [hY] at x2
            clear hX hY hc
            go_wp2
            go_roundw
            case rel => exact ⟨j + 1, by omega, by go_num, by show URow _ _ _ _; rw [← HS.out]; exact HR.out.set _ _, HO.out.setCell (p := ⟨Q, j, none⟩) (by simp) _⟩
            case measure => simp [intOf]; omega
          · have hjn : ¬ (j : Int) < 16 := by omega
            have hje : j = 16 := by omega
            have HR16 : Hid (UAt wr (some ⟨Q, 0, none⟩) 16 (fun i => f (5 + i) + 1)) := by
              rw [hje] at HR
              exact .inr ⟨Q, 0, rfl, HR.out.lt, fun i hi => by rw [Nat.zero_add, HR.out.cell i hi]; unfold moreTo; rw [if_pos hi]⟩
            have HBr : Hid (Below w3.heap.size w3 wr) := HB5.out.trans (HO.out.below (by have := HB5.out.size; omega) (by have := HQ.out; simp; omega))
            have HOr : Hid (On wr V (S.give q node) (N + 17) L M) := H3.out.later HBr.out
            clear hje
            go_wp2_with fail
            refine (vsetBlock_yes V (S.give q node) (N + 17) q _ 16 16 (fun i => f (5 + i) + 1) wr HOr.out.view (by omega) (by omega) (by omega) (Nat.le_refl _) HR16.out (fun i hi => WalkArith.wf_u64 (by have := HF.out (5 + i) (by omega); omega))).mono ?_
            rintro e w6 ⟨rfl, hv6, ho6⟩
            have H6 : Hid (On w6 V ((S.give q node).setB q (moreRow f)) (N + 17 + 16) L M) := HOr.out.step hv6 ho6 (by simp [VLay.all, VLay.blocks])
            have HO6 : Hid (Only V.blocks w w6) := HO3.out.trans ((Only.of_below HBr.out).trans (only_blocks ho6 (by simp [VLay.blocks])))
            clear hv6 ho6
            go_wp2
            go_ret2
            exact ⟨_, _, _, N + 17 + 16, rfl, .inr (.inr (.inl ⟨HAL.out, rfl, rfl, q, by omega, HP.out, HL.out, rfl, rfl⟩)), H6.out, by omega, HO6.out⟩
      · have HT : Hid _ := take_full V S N L M node w H.out n0 n1 (fun j hj => hl j (by omega) (by omega))
        have HL : Hid (∀ j : Nat, j < 96 → freshB S M (j : Int) = false) := fun j hj => hl j (by omega) (by omega)
        clear hl
        go_enter Try.func35, Try.ntmps35
        go_wp2_with (first
          | (go_at_call 46; refine Calls.mono (Hid.out HA) ?_; rintro e w' ⟨rfl, hw⟩; obtain rfl := hw.symm)
          | (go_at_call 49; refine Calls.mono (Hid.out HT) ?_; rintro e w3 ⟨rfl, hb3⟩; have HB3 : Hid (Below w.heap.size w w3) := hb3; clear hb3)
          | go_in)
        go_ret2
        exact ⟨_, _, S, N, rfl, .inr (.inr (.inr (.inl ⟨HAL.out, rfl, rfl, rfl, HL.out, rfl⟩))), H.out.later HB3.out, by omega, Only.of_below HB3.out⟩
    · have hme : (m == -1) = false := by simpa using hm
      have HM : Hid (m ≠ -1) := hm
      have hm0 : 0 ≤ m := by omega
      have HO3 : Hid (Only V.blocks w w) := Only.refl _ _
      clear hm
      go_enter Try.func35, Try.ntmps35
      go_wp2_with (first
        | (go_at_call 46; refine Calls.mono (Hid.out HA) ?_; rintro e w' ⟨rfl, hw⟩; obtain rfl := hw.symm)
        | (at_make; refine wpList_make_full _ rfl _ _ 30 rfl w.heap.size 23 i0 (.int .u64 0) 1 Try.underlying30 hi hz0 hz1 _ _ _ _ 16 rfl rfl rfl rfl ?b2 ?b3 (Nat.le_refl _) ?_))
      case b2 => rw [hz2]; omega
      case b3 => unfold maxLen; omega
      intro w5 hown5 hgrow5
      obtain ⟨Q, hQ⟩ : ∃ Q, w.heap.size = Q := ⟨_, rfl⟩
      have HQ : Hid (w.heap.size = Q) := hQ
      have HB5 : Hid (Below w.heap.size w w5) := (Below.refl _ _).grown hgrow5 (Nat.le_refl _) (fun k h => by cases h)
      rw [hQ] at hown5
      have HU5 : Hid (URow w5 Q 16 (fun _ => 0)) := made_row hown5
      have HI5 : Hid (IntsAt w5 (some ⟨G, o, none⟩) 16 (fun i => f (5 + i))) := HI.out.later (Nat.le_refl _) HB5.out
      have HLT : Hid (G ≠ Q) := by
        show _ ≠ _
        rcases HI.out with h0 | ⟨b', o', e, hl, _⟩
        · omega
        · cases e; omega
      clear hown5 hgrow5 hQ
      rw [HQ.out]
      go_wp2
      go_loopw [13, 14, 46] (fun _ _ i wr => ∃ j : Nat, j ≤ 16 ∧ i = .int .i64 j ∧ Hid (URow wr Q 16 (moreTo f j)) ∧ Hid (Only [Q] w5 wr)) (fun _ _ i _ => 16 - (intOf i).toNat)
      case atStart => exact ⟨0, by omega, rfl, by show URow _ _ _ _; rw [moreTo_zero]; exact HU5.out, Only.refl _ _⟩
      case round =>
        obtain ⟨j, hj, rfl, HR, HO⟩ := hrel
        by_cases hlt : j < 16
        · have hjn : (j : Int) < 16 := by omega
          obtain ⟨b', o', e, hl, hc⟩ := HI5.out.resolve_left (by omega)
          cases e
          have x1 : wr.cell? ⟨G, o + j, none⟩ = some (.int .i64 (f (5 + j))) := (World.cell?_of_block (a := ⟨G, o + j, none⟩) (HO.out.block G hl (by simp [HLT.out]))).trans (hc j hlt)
          have x2 := HR.out.cell j hlt
          have x3 := HR.out.frozen j
          obtain ⟨y1, y2⟩ := HF.out (5 + j) (by omega)
          have HS : Hid (updN (moreTo f j) j (f (5 + j) + 1) = moreTo f (j + 1)) := moreTo_succ f j
          obtain ⟨X, hX⟩ : ∃ X, f (5 + j) = X := ⟨_, rfl⟩
          obtain ⟨Y, hY⟩ : ∃ Y, moreTo f j j = Y := ⟨_, rfl⟩
          rw [hX] at x1 y1 y2 HS
          rw [hY] at x2
          clear hX hY hc
          go_wp2
          go_roundw
          case rel => exact ⟨j + 1, by omega, by go_num, by show URow _ _ _ _; rw [← HS.out]; exact HR.out.set _ _, HO.out.setCell (p := ⟨Q, j, none⟩) (by simp) _⟩
          case measure => simp [intOf]; omega
        · have hjn : ¬ (j : Int) < 16 := by omega
          have hje : j = 16 := by omega
          have HR16 : Hid (UAt wr (some ⟨Q, 0, none⟩) 16 (fun i => f (5 + i) + 1)) := by
            rw [hje] at HR
            exact .inr ⟨Q, 0, rfl, HR.out.lt, fun i hi => by rw [Nat.zero_add, HR.out.cell i hi]; unfold moreTo; rw [if_pos hi]⟩
          have HBr : Hid (Below w.heap.size w wr) := HB5.out.trans (HO.out.below (by have := HB5.out.size; omega) (by have := HQ.out; simp; omega))
          have HOr : Hid (On wr V (S) (N) L M) := H.out.later HBr.out
          clear hje
          go_wp2_with fail
          refine (vsetBlock_yes V (S) (N) m _ 16 16 (fun i => f (5 + i) + 1) wr HOr.out.view (by omega) (by omega) (by omega) (Nat.le_refl _) HR16.out (fun i hi => WalkArith.wf_u64 (by have := HF.out (5 + i) (by omega); omega))).mono ?_
          rintro e w6 ⟨rfl, hv6, ho6⟩
          have H6 : Hid (On w6 V ((S).setB m (moreRow f)) (N + 16) L M) := HOr.out.step hv6 ho6 (by simp [VLay.all, VLay.blocks])
          have HO6 : Hid (Only V.blocks w w6) := HO3.out.trans ((Only.of_below HBr.out).trans (only_blocks ho6 (by simp [VLay.blocks])))
          clear hv6 ho6
          go_wp2
          go_ret2
          exact ⟨_, _, _, N + 16, rfl, .inr (.inr (.inr (.inr ⟨HAL.out, HM.out, rfl, rfl, rfl⟩))), H6.out, by omega, HO6.out⟩

end Go.Proofs.Ytdjnkibnnjobpaa
