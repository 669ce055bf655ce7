/- Contracts of Map: a file's map. -/
import Derived.Test.YtdjnkibnnjobpaaBdB
namespace Go.Proofs.Ytdjnkibnnjobpaa
open Go.RowKit Go.Maps Go.ChangeMaps

def dirF (d0 d1 d2 d3 d4 : Int) : Nat → Int := fun i => [d0, d1, d2, d3, d4].getD i 0
/-- A file's map: of its card's places, and of More's block over these words. -/
def mapF (W : Int → Int) (d0 d1 d2 d3 d4 m : Int) : Nat → Int := fun i => if i < 5 then dirF d0 d1 d2 d3 d4 i else if m = -1 then -1 else W (1288 + 16 * m + ((i - 5 : Nat) : Int)) - 1
/-- A copy of ints into a block, from wherever they lie. -/
theorem run_copyV (w : World) (g off d dc b o n c m : Nat) (t : TypeId) (cur : List Value) (f : Nat → Int) (hR : w.heap[g]? = some (.cells cur.toArray t (0, 0))) (hc : ∀ i, i < m → w.cell? ⟨b, o + i, none⟩ = some (.int .i64 (f i))) (hm : m = Nat.min n d) (hfit : off + m ≤ cur.length) :
    (Builtin.copy_ #[27, 27] 3 #[.slice (some ⟨g, off, none⟩) d dc, .slice (some ⟨b, o, none⟩) n c]).run Try.prog w = .ok (.int .i64 m) (w.setRow g (cur.take off ++ rowV f m ++ cur.drop (off + m)).toArray) := by
  have hr := run_copy_row (P := Try.prog) w 27 27 3 3 g off d dc ⟨b, o, none⟩ n c cur.toArray t (rowV f m) Try.underlying27 size3v hR (by rw [rowV_len]; exact hm) ?src (by rw [rowV_len, List.size_toArray]; exact hfit) (rowV_one _ _)
  case src =>
    intro j v hj
    by_cases hjm : j < m
    · rw [rowV_at f m j hjm] at hj
      cases hj
      rw [Addr.add_lit]
      exact hc j hjm
    · rw [rowV_out f m j hjm] at hj
      cases hj
  rw [rowV_len] at hr
  exact hr
theorem only_setRow (w : World) (g : Nat) (cs : Array Value) : Only [g] w (w.setRow g cs) := ⟨rfl, rfl, rfl, by simp [World.setRow], fun k _ hk => setRow_other w g k _ (by simpa using hk)⟩
theorem copy_dir (d0 d1 d2 d3 d4 : Int) (f : Nat → Int) : (rowV f 21).take 0 ++ rowV (dirF d0 d1 d2 d3 d4) 5 ++ (rowV f 21).drop (0 + 5) = rowV (fun i => if i < 5 then dirF d0 d1 d2 d3 d4 i else f i) 21 := by
  apply rowV_ext
  · simp [rowV_len]
  · intro j hj
    rw [List.take_zero, List.nil_append]
    by_cases h : j < 5
    · rw [List.getElem?_append_left (by rw [rowV_len]; exact h), rowV_at _ _ _ h, if_pos h]
    · rw [List.getElem?_append_right (by rw [rowV_len]; omega), rowV_len, List.getElem?_drop, if_neg h, show 0 + 5 + (j - 5) = j by omega, rowV_at _ _ _ hj]
/-- The card's places, then holes up to k, then 0. -/
def fillTo (d : Nat → Int) (k : Nat) : Nat → Int := fun i => if i < 5 then d i else if i < k then -1 else 0
theorem fillTo_succ (d : Nat → Int) (k : Nat) (hk : 5 ≤ k) : updN (fillTo d k) k (-1) = fillTo d (k + 1) := by
  funext i
  unfold updN fillTo
  by_cases e : i = k
  · subst e
    rw [if_pos rfl, if_neg (by omega), if_pos (by omega)]
  · rw [if_neg e]
    by_cases h : i < 5
    · rw [if_pos h, if_pos h]
    · rw [if_neg h, if_neg h]
      by_cases h2 : i < k
      · rw [if_pos h2, if_pos (by omega)]
      · rw [if_neg h2, if_neg (by omega)]
/-- What Map answers. -/
def MapTo (w w' : World) (e : Ending) (F : Nat → Int) (B : Bool) : Prop :=
  (B = true ∧ ∃ g, w.heap.size ≤ g ∧ e = .returned (.tuple #[.slice (some ⟨g, 0, none⟩) 21 21, .int .i64 0]) ∧ IRow w' g 21 F) ∨ B = false ∧ e = .returned (.tuple #[.slice none 0 0, .int .i64 15])

set_option maxHeartbeats 4000000 in
set_option maxRecDepth 100000 in
theorem map_any (V : VLay) (S : Vw) (N : Nat) (L : Lay) (M : Mem) (k l s v d0 d1 d2 d3 d4 m : Int) (w : World) (h : On w V S N L M) (m0 : -1 ≤ m) (m1 : m < 96) (B : Bool)
    (hB : B = true ↔ m = -1 ∨ (∀ i : Nat, i < 16 → S.word M (1288 + 16 * m + (i : Int)) ≤ 96) ∧ ∃ i : Nat, i < 16 ∧ S.word M (1288 + 16 * m + (i : Int)) ≠ 0) :
    Calls Try.prog 11 #[.pointer (some ⟨V.vb, 0, none⟩), .agg #[.int .i64 k, .int .i64 l, .int .i64 s, .int .u64 v, .int .i64 d0, .int .i64 d1, .int .i64 d2, .int .i64 d3, .int .i64 d4, .int .i64 m]] w fun e w' => MapTo w w' e (mapF (S.word M) d0 d1 d2 d3 d4 m) B ∧ Below w.heap.size w w' := by
  obtain ⟨i0, hi, hz0, hz1, hz2⟩ := info_parts Try.info3v
  have H : Hid (On w V S N L M) := h
  have HBB : Hid (B = true ↔ m = -1 ∨ (∀ i : Nat, i < 16 → S.word M (1288 + 16 * m + (i : Int)) ≤ 96) ∧ ∃ i : Nat, i < 16 ∧ S.word M (1288 + 16 * m + (i : Int)) ≠ 0) := hB
  clear h hB
  go_enter Try.func11, Try.ntmps11
  go_wp2_with fail
  obtain ⟨W, hW, HS, HE, HC⟩ := Cd.new_card w k l s v d0 d1 d2 d3 d4 m
  rw [hW]
  clear hW
  have HW : Hid (On W V S N L M) := H.out.later (HE.out W (Below.refl _ _))
  refine (bmissing_no V S N L M W HW.out).mono ?_
  rintro e w1 ⟨rfl, hb1⟩
  have HB1 : Hid (Below W.heap.size W w1) := hb1
  clear hb1
  go_wp2_with (at_make; refine wpList_make_full _ rfl _ _ 27 rfl w1.heap.size 3 i0 (.int .i64 0) 1 Try.underlying27 hi hz0 hz1 _ _ _ _ 21 rfl rfl rfl rfl ?b2 ?b3 (Nat.le_refl _) ?_)
  case b2 => rw [hz2]; omega
  case b3 => unfold maxLen; omega
  intro w2 hown2 hgrow2
  obtain ⟨G, hG⟩ : ∃ G, w1.heap.size = G := ⟨_, rfl⟩
  have HGE : Hid (w1.heap.size = G) := hG
  have HB2 : Hid (Below W.heap.size W w2) := HB1.out.grown hgrow2 HB1.out.size (fun k h => by cases h)
  rw [hG] at hown2
  have hR2 : IRow w2 G 21 (fun _ => 0) := made_rowV hown2
  have hrun := run_copyV w2 G 0 21 21 w.heap.size 4 5 5 5 3 (rowV (fun _ => 0) 21) (dirF d0 d1 d2 d3 d4) hR2 ?cc (by decide) (by simp [rowV_len])
  case cc =>
    obtain ⟨c0, c1, c2, c3, c4, c5, c6, c7, c8, c9⟩ := HC.out w2 HB2.out
    intro i hi
    match i, hi with
    | 0, _ => exact c4
    | 1, _ => exact c5
    | 2, _ => exact c6
    | 3, _ => exact c7
    | 4, _ => exact c8
  rw [copy_dir] at hrun
  obtain ⟨w3, hw3⟩ : ∃ w3, w2.setRow G (rowV (fun i => if i < 5 then dirF d0 d1 d2 d3 d4 i else (fun _ => 0) i) 21).toArray = w3 := ⟨_, rfl⟩
  have HR3 : Hid (IRow w3 G 21 (fillTo (dirF d0 d1 d2 d3 d4) 5)) := by
    have : IRow w3 G 21 (fun i => if i < 5 then dirF d0 d1 d2 d3 d4 i else (fun _ => 0) i) := by rw [← hw3]; exact setRow_heap w2 G _ _ _ _ hR2
    refine this.congr fun j _ => ?_
    unfold fillTo
    by_cases hj : j < 5
    · rw [if_pos hj, if_pos hj]
    · rw [if_neg hj, if_neg hj, if_neg hj]
  have HGW : Hid (W.heap.size ≤ G) := by rw [← hG]; exact HB1.out.size
  have HB3 : Hid (Below W.heap.size W w3) := HB2.out.trans (by rw [← hw3]; exact (only_setRow w2 G _).below HB2.out.size (by simp; exact HGW.out))
  rw [hw3] at hrun
  clear hw3 hR2 hown2 hgrow2 hG
  rw [HGE.out]
  go_wp2
  go_loopw [7] (fun i wr => ∃ j : Nat, 5 ≤ j ∧ j ≤ 21 ∧ i = .int .i64 j ∧ Hid (IRow wr G 21 (fillTo (dirF d0 d1 d2 d3 d4) j)) ∧ Hid (Below W.heap.size W wr)) (fun i _ => 21 - (intOf i).toNat)
  case atStart => exact ⟨5, by omega, by omega, rfl, HR3, HB3⟩
  case round =>
    obtain ⟨j, hj5, hj, rfl, HR, HB⟩ := hrel
    by_cases hlt : j < 21
    · have x2 := HR.out.cell j hlt
      have x3 := HR.out.frozen j
      have hb : (j : Int) < 21 := by omega
      have HSu : Hid (updN (fillTo (dirF d0 d1 d2 d3 d4) j) j (-1) = fillTo (dirF d0 d1 d2 d3 d4) (j + 1)) := fillTo_succ _ j hj5
      obtain ⟨Y, hY⟩ : ∃ Y, fillTo (dirF d0 d1 d2 d3 d4) j j = Y := ⟨_, rfl⟩
      rw [hY] at x2
      clear hY
      go_wp2
      go_roundw
      case rel => exact ⟨j + 1, by omega, by omega, by go_num, by show IRow _ _ _ _; rw [← HSu.out]; exact HR.out.set _ _, HB.out.setCell (p := ⟨G, j, none⟩) HGW.out _⟩
      case measure => simp [intOf]; omega
    · have hb : ¬ (j : Int) < 21 := by omega
      have hj21 : j = 21 := by omega
      have HR21 : Hid (IRow wr G 21 (fillTo (dirF d0 d1 d2 d3 d4) 21)) := by rw [hj21] at HR; exact HR
      have HWR : Hid (On wr V S N L M) := HW.out.later HB.out
      obtain ⟨c0, c1, c2, c3, c4, c5, c6, c7, c8, c9⟩ := HC.out wr HB.out
      clear c0 c1 c2 c3 c4 c5 c6 c7 c8 hj21 HR
      by_cases hm : m = -1
      · have hBt : B = true := HBB.out.2 (.inl hm)
        subst hm hBt
        go_wp2
        go_ret2
        refine ⟨.inl ⟨rfl, G, by have := HS.out; have := HGW.out; omega, rfl, HR21.out.congr fun i hi => ?_⟩, HE.out _ HB.out⟩
        unfold fillTo mapF
        by_cases h5 : i < 5
        · rw [if_pos h5, if_pos h5]
        · rw [if_neg h5, if_neg h5, if_pos hi, if_pos rfl]
      · have hme : (m == -1) = false := by simpa using hm
        have HBL : Hid _ := vblock_yes V S N L M m wr HWR.out.view HWR.out.mem HWR.out.mb (by omega) m1
        have HM : Hid (¬ m = -1) := hm
        clear hm
        go_wp2_with fail
        refine Calls.mono (Hid.out HBL) ?_
        rintro e w4 ⟨rfl, hrow, hb4⟩
        have HB4 : Hid (Below wr.heap.size wr w4) := hb4
        have HR4 : Hid (IRow w4 G 21 (fillTo (dirF d0 d1 d2 d3 d4) 21)) := HR21.out.later hb4
        have HWA : Hid (WAt w4 wr.heap.size 16 (fun i => S.word M (1288 + 16 * m + (i : Int)))) := wat_of_row hrow (by omega)
        have HNE : Hid (wr.heap.size ≠ G) := by show _ ≠ _; have := HR21.out.lt; omega
        have HT : Hid (Calls Try.prog 31 #[.slice (some ⟨wr.heap.size, 0, none⟩) 16 16, .slice (some ⟨G, 5, none⟩) 16 16] w4 fun e w' => e = .returned (.bool B) ∧ (B = true → IRow w' G 21 (tellTo (fillTo (dirF d0 d1 d2 d3 d4) 21) (fun i => S.word M (1288 + 16 * m + (i : Int))) 16)) ∧ Only [G] w4 w') :=
          tell_any wr.heap.size G _ _ w4 HR4.out HWA.out HNE.out (fun i _ => HWR.out.ok _) B ⟨fun hb => (HBB.out.1 hb).elim (fun e => absurd e HM.out) id, fun hb => HBB.out.2 (.inr hb)⟩
        clear hrow hb4
        go_wp2_with fail
        refine Calls.mono (Hid.out HT) ?_
        rintro e w5 ⟨rfl, hR5, hO5⟩
        have HR5 : Hid (B = true → IRow w5 G 21 (tellTo (fillTo (dirF d0 d1 d2 d3 d4) 21) (fun i => S.word M (1288 + 16 * m + (i : Int))) 16)) := hR5
        have HB5 : Hid (Below w.heap.size w w5) := HE.out _ ((HB.out.trans (HB4.out.mono HB.out.size)).trans (hO5.below (Nat.le_trans HB.out.size HB4.out.size) (by simp; exact HGW.out)))
        clear hR5 hO5
        cases B with
        | true =>
          go_wp2
          go_ret2
          refine ⟨.inl ⟨rfl, G, by have := HS.out; have := HGW.out; omega, rfl, (HR5.out trivial).congr fun i hi => ?_⟩, HB5.out⟩
          unfold tellTo fillTo mapF
          by_cases h5 : i < 5
          · rw [if_neg (by omega), if_pos h5, if_pos h5]
          · rw [if_pos (by omega), if_neg h5, if_neg HM.out]
        | false =>
          go_wp2
          go_ret2
          exact ⟨.inr ⟨rfl, rfl⟩, HB5.out⟩

end Go.Proofs.Ytdjnkibnnjobpaa
