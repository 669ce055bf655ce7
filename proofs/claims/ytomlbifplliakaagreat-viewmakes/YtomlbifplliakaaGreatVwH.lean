/- Changes as cells; the view's Changes and Seen. -/
import Derived.Test.YtomlbifplliakaaGreatVwG
import Derived.Deep.QuietTactic
import Derived.Lib.OwnBridge
namespace Go.Proofs.YtomlbifplliakaaGreat
open Go.RowKit Go.Maps Go.ChangeMaps Go.Shelf

/-- A change: a word's place, and what it is to be. -/
abbrev Chg := Int × Int
def chgVals (cs : List Chg) : List Value := cs.flatMap fun c => [.int .i64 c.1, .int .u64 c.2]
theorem chgVals_append (a b : List Chg) : chgVals (a ++ b) = chgVals a ++ chgVals b := by simp [chgVals]
theorem chgVals_len (a : List Chg) : (chgVals a).length = a.length * 2 := by
  induction a with
  | nil => rfl
  | cons x a ih => simp only [chgVals, List.flatMap_cons, List.length_append, List.length_cons, List.length_nil] at *; omega
theorem chgVals_one (x y : Int) : chgVals [(x, y)] = [.int .i64 x, .int .u64 y] := by simp [chgVals]
theorem chgVals_at (ss : List Chg) (i : Nat) (hi : i < ss.length) : (chgVals ss)[i * 2]? = some (.int .i64 (ss.getD i (0, 0)).1) ∧ (chgVals ss)[i * 2 + 1]? = some (.int .u64 (ss.getD i (0, 0)).2) := by
  induction ss generalizing i with
  | nil => simp at hi
  | cons s ss ih =>
    have e : chgVals (s :: ss) = [.int .i64 s.1, .int .u64 s.2] ++ chgVals ss := rfl
    cases i with
    | zero => rw [e]; simp
    | succ i =>
      have := ih i (by simpa using hi)
      rw [e, List.getElem?_append_right (by simp; omega), List.getElem?_append_right (by simp; omega)]
      have e1 : (i + 1) * 2 - 2 = i * 2 := by omega
      have e2 : (i + 1) * 2 + 1 - 2 = i * 2 + 1 := by omega
      simp only [List.length_cons, List.length_nil, Nat.zero_add, Nat.reduceAdd, e1, e2]
      simpa using this

/-- Changes lie at a slice's address. -/
def ChgsAt (w : World) (a : Option Addr) (cs : List Chg) : Prop := cs = [] ∨ ∃ b o, a = some ⟨b, o, none⟩ ∧ b < w.heap.size ∧ ∀ i, i < cs.length → w.cell? ⟨b, o + i * 2, none⟩ = some (.int .i64 (cs.getD i (0, 0)).1) ∧ w.cell? ⟨b, o + i * 2 + 1, none⟩ = some (.int .u64 (cs.getD i (0, 0)).2)
theorem ChgsAt.later {w w' : World} {a : Option Addr} {cs : List Chg} (h : ChgsAt w a cs) {B : Nat} (hB : w.heap.size ≤ B) (hb : Below B w w') : ChgsAt w' a cs := by
  rcases h with h | ⟨b, o, e, hlt, hc⟩
  · exact .inl h
  · exact .inr ⟨b, o, e, by have := hb.size; omega, fun i hi => ⟨(hb.cell (p := ⟨b, o + i * 2, none⟩) (by show b < B; omega)).trans (hc i hi).1, (hb.cell (p := ⟨b, o + i * 2 + 1, none⟩) (by show b < B; omega)).trans (hc i hi).2⟩⟩
theorem ChgsAt.only {w w' : World} {a : Option Addr} {cs : List Chg} {X : List Nat} (h : ChgsAt w a cs) (ho : Only X w w') (hX : ∀ b, a.map (·.block) = some b → b ∉ X) : ChgsAt w' a cs := by
  rcases h with h | ⟨b, o, rfl, hlt, hc⟩
  · exact .inl h
  · have hb := ho.block b hlt (hX b rfl)
    exact .inr ⟨b, o, rfl, by have := ho.size; omega, fun i hi => ⟨by rw [World.cell?_of_block (w := w) hb]; exact (hc i hi).1, by rw [World.cell?_of_block (w := w) hb]; exact (hc i hi).2⟩⟩
/-- A row of changes of one's own. -/
def OwnChg (w : World) (base : Nat) (v : Value) (cs : List Chg) : Prop := w.ownsRow base 47 2 v cs.length (chgVals cs)
theorem OwnChg.more {w : World} {base : Nat} {v : Value} {ss : List Chg} {x y : Int} (h : w.ownsRow base 47 2 v (ss.length + 1) (chgVals ss ++ [.int .i64 x, .int .u64 y])) : OwnChg w base v (ss ++ [(x, y)]) := by
  unfold OwnChg
  rw [chgVals_append, chgVals_one, List.length_append]
  exact h
theorem OwnChg.at {w : World} {base : Nat} {v : Value} {ss : List Chg} (h : OwnChg w base v ss) : ∃ a c, v = .slice a ss.length c ∧ ss.length ≤ c ∧ ChgsAt w a ss ∧ ∀ b, a.map (·.block) = some b → base ≤ b ∧ b < w.heap.size := by
  have h' := h
  rcases h.2 with ⟨rfl, h0⟩ | ⟨g, cap, cur, rfl, _, _, hle, _⟩
  · exact ⟨none, 0, by rw [h0], by omega, .inl (List.length_eq_zero_iff.1 h0), fun b e => by cases e⟩
  · refine ⟨_, cap, rfl, hle, .inr ⟨g, 0, rfl, (h'.lt g rfl).2, fun i hi => ?_⟩, fun b e => by cases e; exact h'.lt g rfl⟩
    have := chgVals_at ss i hi
    rw [Nat.zero_add, World.ownsRow.cellAt h' (i * 2) (by omega), World.ownsRow.cellAt h' (i * 2 + 1) (by omega)]
    exact this
theorem own_ne {w : World} {b1 b2 : Nat} {e1 e2 : TypeId} {s1 s2 : Nat} {v1 v2 : Value} {n1 n2 : Nat} {x1 x2 : List Value} (h1 : w.ownsRow b1 e1 s1 v1 n1 x1) (h2 : w.ownsRow b2 e2 s2 v2 n2 x2) (he : e1 ≠ e2) : v1.ownBlock = none ∨ v1.ownBlock ≠ v2.ownBlock := by
  rcases h1.2 with ⟨rfl, _⟩ | ⟨g1, c1, u1, rfl, _, hb1, _⟩
  · exact .inl rfl
  · right
    rcases h2.2 with ⟨rfl, _⟩ | ⟨g2, c2, u2, rfl, _, hb2, _⟩
    · intro x; cases x
    · intro x
      have : g1 = g2 := Option.some.inj x
      subst this
      rw [hb1] at hb2
      cases hb2
      exact he rfl
theorem two_cells {w : World} {B : Nat} {x y : Value} {t : TypeId} (hB : w.heap.size = B) : ∀ (j : Nat) (r : Value), [x, y][j]? = some r → (w.alloc (.cells #[x, y] t)).cell? ((⟨B, 0, none⟩ : Addr).add j) = some r := by
  subst hB
  intro j u hj
  match j, hj with
  | 0, hj => simp at hj; subst hj; simp [Addr.add]
  | 1, hj => simp at hj; subst hj; simp [Addr.add]

/-- Of these places, those that are to be other ones. -/
def chgOf (f g : Int → Int) (ks : List Int) : List Chg := (ks.filter fun x => decide (f x ≠ g x)).map fun x => (x, f x)
theorem chgOf_same {f g : Int → Int} {ks : List Int} {x : Int} (h : f x = g x) : chgOf f g (ks ++ [x]) = chgOf f g ks := by simp [chgOf, List.filter_append, h]
theorem chgOf_other {f g : Int → Int} {ks : List Int} {x : Int} (h : f x ≠ g x) : chgOf f g (ks ++ [x]) = chgOf f g ks ++ [(x, f x)] := by simp [chgOf, List.filter_append, h]
theorem chgOf_len (f g : Int → Int) (ks : List Int) : (chgOf f g ks).length ≤ ks.length := by
  unfold chgOf
  rw [List.length_map]
  exact List.length_filter_le _ _
/-- Where the view has written; what it would change. -/
def Vw.places (S : Vw) : List Int := placesOf (fun k => (S.own k).isSome) 2824
def Vw.changes (S : Vw) (M : Mem) : List Chg := chgOf (S.word M) M.read S.places

theorem Tryz.infoC : (Tryz.prog.info? 47).map (fun i => (i.zero, i.size, i.bytes)) = some (some (.agg #[.int .i64 0, .int .u64 0]), 2, 16) := by kernel_rfl

theorem sortedOwn_any (c : Nat) (V : VLay) (S : Vw) (N : Nat) (w : World) (h : ViewIs w V S N) (hN : N < 1000000000) (hc : w.heap[c]? = some (.cells #[.map (some V.ob)] 58 (0, 0))) :
    Calls Tryz.prog 48 #[.func (.func 67) #[] #[.pointer (some ⟨c, 0, none⟩)]] w fun e w' => SortedTo w w' e S.places := by
  obtain ⟨D, hown, hr⟩ := h.own
  refine sortedA_any c V.ob N D (fun k => (S.own k).isSome) 2824 w hc hown (fun x => (hr x).1) hN fun k hk => ?_
  obtain ⟨v, hv⟩ := Option.isSome_iff_exists.1 hk
  have := h.inside k v hv
  unfold openI at this
  omega

set_option maxHeartbeats 2000000 in
theorem vchanges_any (V : VLay) (S : Vw) (N : Nat) (L : Lay) (M : Mem) (w : World) (h : ViewIs w V S N) (hm : MemIs w L M) (hv : V.mb = L.mb) (hN : N < 1000000000) :
    Calls Tryz.prog 13 #[.pointer (some ⟨V.vb, 0, none⟩)] w fun e w' => ∃ v, e = .returned v ∧ OwnChg w' w.heap.size v (S.changes M) ∧ Below w.heap.size w w' := by
  obtain ⟨i0, hi, hz0, hz1, hz2⟩ := info_parts Tryz.infoC
  have c1 := h.c1
  have HLV : Hid (∀ k ∈ V.all, k < w.heap.size) := h.all_lt
  have HLM : Hid (∀ k ∈ L.blocks, k < w.heap.size) := hm.all_lt
  have HIN : Hid (∀ x ∈ S.places, (S.own x).isSome = true ∧ 0 ≤ x ∧ x < 2824) := by
    intro x hx
    have hin : ∀ k, (S.own k).isSome = true → 0 ≤ k ∧ k < 2824 := fun k hk => by
      obtain ⟨v, hv⟩ := Option.isSome_iff_exists.1 hk
      have := h.inside k v hv
      unfold openI at this
      omega
    have := (mem_placesOf (n := 2824) hin x).1 hx
    exact ⟨this, hin x this⟩
  have hlen := placesOf_len (fun k => (S.own k).isSome) 2824
  have HCH : Hid (S.changes M = chgOf (S.word M) M.read S.places) := rfl
  obtain ⟨R, hR⟩ : ∃ R, S.changes M = R := ⟨_, rfl⟩
  rw [hR] at HCH ⊢
  clear hR
  have HSO : Hid (∀ (c : Nat) (w : World), ViewIs w V S N → w.heap[c]? = some (.cells #[.map (some V.ob)] 58 (0, 0)) → Calls Tryz.prog 48 #[.func (.func 67) #[] #[.pointer (some ⟨c, 0, none⟩)]] w fun e w' => SortedTo w w' e S.places) := fun c w h hc => sortedOwn_any c V S N w h hN hc
  obtain ⟨ks, hks⟩ : ∃ ks, S.places = ks := ⟨_, rfl⟩
  have hlen2 : ks.length ≤ 2824 := by rw [← hks]; exact hlen
  rw [hks] at HCH HIN HSO
  clear hks hlen
  obtain ⟨m, hm'⟩ : ∃ m, ks.length = m := ⟨_, rfl⟩
  have HM : Hid (ks.length = m) := hm'
  rw [hm'] at hlen2
  have hB1 : Below w.heap.size w (w.alloc (.cells #[.map (some V.ob)] 58)) := (Below.refl _ _).alloc (Nat.le_refl _) _
  have hs1 : (w.alloc (.cells #[.map (some V.ob)] 58)).heap.size = w.heap.size + 1 := by simp
  have HS : Hid (Calls Tryz.prog 48 #[.func (.func 67) #[] #[.pointer (some ⟨w.heap.size, 0, none⟩)]] (w.alloc (.cells #[.map (some V.ob)] 58)) fun e w' => ∃ v, e = .returned v ∧ w'.ownsRow w.heap.size 3 1 v m (ks.map (Value.int .i64)) ∧ Below w.heap.size w w') := by
    refine (HSO.out w.heap.size _ (h.later hB1) (heap_alloc_new _ _)).mono ?_
    rintro e w' ⟨v, h1, h2, _, h4⟩
    rw [hm'] at h2
    exact ⟨v, h1, ownsRow_base_a h2 (by omega), hB1.trans (h4.mono (by omega))⟩
  clear hm' HSO hB1 hs1
  go_enter Tryz.func13, Tryz.ntmps13
  go_wp2_with fail
  refine (void_any V S N _ h).mono ?_
  rintro e w' ⟨rfl, hw⟩
  obtain rfl := hw.symm
  go_wp2_with fail
  refine (keysA_any _ _).mono ?_
  rintro e w' ⟨rfl, rfl⟩
  go_wp2_with fail
  refine Calls.mono (Hid.out HS) ?_
  rintro e w1 ⟨v, rfl, hrow, hb1⟩
  obtain ⟨va, vc, rfl, hva⟩ := ownsRow_form0 hrow
  go_wp2
  go_loopw [3, 5, 6, 16] (fun v _ _ i wr => ∃ j : Nat, j ≤ m ∧ i = .int .i64 j ∧ Hid (OwnChg wr w.heap.size v (chgOf (S.word M) M.read (ks.take j))) ∧ wr.ownsRow w.heap.size 3 1 (.slice va m vc) m (ks.map (Value.int .i64)) ∧ Below w.heap.size w wr) (fun _ _ _ i _ => m - (intOf i).toNat)
  case atStart => exact ⟨0, Nat.zero_le _, rfl, by show OwnChg _ _ _ _; rw [List.take_zero]; exact World.ownsRow_nil _ _ _ _, hrow, hb1⟩
  case round =>
    obtain ⟨j, hj, rfl, HO, hln, hnx⟩ := hrel
    by_cases hlt2 : j < m
    · rcases hva with h0 | ⟨g, rfl, hg⟩
      · omega
      have hjm : (j : Int) < (m : Int) := by omega
      have hjl : j < ks.length := by have := HM.out; omega
      have hcell : wr.cell? ⟨g, j, none⟩ = some (.int .i64 (ks.getD j 0)) := by
        rw [hln.cellAt j (by omega)]; simp [hjl]
      have htk : ks.take (j + 1) = ks.take j ++ [ks.getD j 0] := by
        rw [List.take_add_one]; simp [hjl]
      have hin := HIN.out (ks.getD j 0) (by simp [hjl])
      have HV : Hid (ViewIs wr V S N) := h.below hnx HLV.out
      have HMM : Hid (MemIs wr L M) := hm.below hnx HLM.out
      obtain ⟨X, hX⟩ : ∃ X, ks.getD j 0 = X := ⟨_, rfl⟩
      rw [hX] at hcell htk hin
      clear hX
      obtain ⟨hin1, hin2, hin3⟩ := hin
      obtain ⟨Y, hY⟩ := Option.isSome_iff_exists.1 hin1
      have hwk : (Lit.int .i64 X).wf = true := WalkArith.wf_i64 (by omega)
      have hword : S.word M X = Y := by simp [Vw.word, hY]
      obtain ⟨Z, hZ⟩ : ∃ Z, M.read X = Z := ⟨_, rfl⟩
      have HR : Hid (Calls Tryz.prog 18 #[.pointer (some ⟨L.mb, 0, none⟩), .int .i64 X] wr fun e w' => e = .returned (.int .u64 Z) ∧ w' = wr) := by
        have := read_any L M X wr HMM.out hwk
        rw [hZ] at this
        exact this
      have d0 := HV.out.c0
      have d1 := HV.out.c1
      rw [hv] at d0
      have hls := chgOf_len (S.word M) M.read (ks.take j)
      have hls2 : (ks.take j).length ≤ j := by rw [List.length_take]; omega
      have hne := own_ne hln HO.out (by decide)
      have HO' := HO.out
      by_cases hYZ : Y = Z
      · subst hYZ
        have HO2 : Hid (∀ v, Hid (OwnChg wr w.heap.size v (chgOf (S.word M) M.read (ks.take j))) → Hid (OwnChg wr w.heap.size v (chgOf (S.word M) M.read (ks.take (j + 1))))) := fun v hv => by
          rw [htk, chgOf_same (hword.trans hZ.symm)]
          exact hv
        clear htk hword hZ hne HO' hls hls2 hin1
        go_wp2_with (first
          | (at_lookup; refine wpList_look1 _ rfl _ _ rfl V.ob N S.own X Y rfl HV.out.own rfl hwk (by rw [hY]; rfl) ?_)
          | (go_at_call 18; refine Calls.mono (Hid.out HR) ?_; rintro e w' ⟨rfl, hw⟩; obtain rfl := hw.symm)
          | go_in)
        go_roundw
        case rel => exact ⟨j + 1, by omega, by go_num, HO2.out _ HO, hln, hnx⟩
        case measure => simp [intOf]; omega
      · have e1 : (Y == Z) = false := by simpa using hYZ
        have e2 : (Y != Z) = true := by simpa using hYZ
        have HT : Hid (chgOf (S.word M) M.read (ks.take (j + 1)) = chgOf (S.word M) M.read (ks.take j) ++ [(X, Y)]) := by
          show _ = _
          rw [htk, chgOf_other (by rw [hword, hZ]; exact hYZ), hword]
        have HY : Hid (S.own X = some Y) := hY
        clear htk hword hZ hYZ hin1 hY
        go_wp2_with (first
          | (at_lookup; refine wpList_look1 _ rfl _ _ rfl V.ob N S.own X Y rfl HV.out.own rfl hwk (by rw [HY.out]; rfl) ?_)
          | (go_at_call 18; refine Calls.mono (Hid.out HR) ?_; rintro e w' ⟨rfl, hw⟩; obtain rfl := hw.symm)
          | (at_builtin; refine wpList_append_own _ rfl _ _ 22 rfl w.heap.size 47 i0 (.agg #[.int .i64 0, .int .u64 0]) 2 16 Tryz.underlying22 hi hz0 hz1 hz2 rfl (by decide) _ _ _ rfl (World.ownsRow.alloc HO' _) ⟨_, 0, none⟩ 1 1 [.int .i64 X, .int .u64 Y] rfl rfl ?c1 ?c2 ?c3 ?c4 ?c5 ?_)
          | go_in)
        case c1 => exact two_cells (by simp)
        case c2 => intro u hu; simp at hu; rcases hu with rfl | rfl <;> rfl
        case c3 => unfold maxLen; omega
        case c4 => omega
        case c5 => have := hnx.size; simp; omega
        intro v' w2 hown' hgrow _
        have hnx2 : Below w.heap.size w w2 := (hnx.alloc hnx.size _).grown hgrow (by have := hnx.size; simp; omega) (fun j h => (World.ownsRow.lt HO' j h).1)
        have hown2 : Hid (OwnChg w2 w.heap.size v' (chgOf (S.word M) M.read (ks.take (j + 1)))) := by
          show OwnChg _ _ _ _
          rw [HT.out]; exact OwnChg.more hown'
        have hln2 := (hln.alloc _).kept hgrow hne
        clear hgrow HO HO' hown' hln
        go_wp2
        go_roundw
        case rel => exact ⟨j + 1, by omega, by go_num, hown2, hln2, hnx2⟩
        case measure => simp [intOf]; omega
    · obtain rfl : j = m := by omega
      go_wp2
      go_ret
      refine ⟨_, rfl, ?_, hnx⟩
      have := HO.out
      rw [List.take_of_length_le (by have := HM.out; omega)] at this
      rw [HCH.out]
      exact this

theorem vseen_any (V : VLay) (S : Vw) (N : Nat) (w : World) (h : ViewIs w V S N) (hN : N < 1000000000) :
    Calls Tryz.prog 19 #[.pointer (some ⟨V.vb, 0, none⟩)] w fun e w' => ∃ v, e = .returned v ∧ w'.ownsRow w.heap.size 3 1 v (placesOf S.seen 24).length ((placesOf S.seen 24).map (Value.int .i64)) ∧ (v = .slice none 0 0 ↔ placesOf S.seen 24 = []) ∧ Below w.heap.size w w' := by
  have c2 := h.c2
  have hB1 : Below w.heap.size w (w.alloc (.cells #[.map (some V.sb)] 60)) := (Below.refl _ _).alloc (Nat.le_refl _) _
  have hs1 : (w.alloc (.cells #[.map (some V.sb)] 60)).heap.size = w.heap.size + 1 := by simp
  have HS : Hid (Calls Tryz.prog 53 #[.map (some V.sb)] w fun e w' => ∃ v, e = .returned v ∧ w'.ownsRow w.heap.size 3 1 v (placesOf S.seen 24).length ((placesOf S.seen 24).map (Value.int .i64)) ∧ (v = .slice none 0 0 ↔ placesOf S.seen 24 = []) ∧ Below w.heap.size w w') := by
    have hS : Hid (Calls Tryz.prog 48 #[.func (.func 80) #[] #[.pointer (some ⟨w.heap.size, 0, none⟩)]] (w.alloc (.cells #[.map (some V.sb)] 60)) fun e w' => SortedTo (w.alloc (.cells #[.map (some V.sb)] 60)) w' e (placesOf S.seen 24)) := by
      obtain ⟨D, hown, hr⟩ := (h.later hB1).seen
      exact sortedB_any w.heap.size V.sb N D S.seen 24 _ (heap_alloc_new _ _) hown (fun x => (hr x).1) hN h.seenIn
    go_enter Tryz.func53, Tryz.ntmps53
    go_wp2_with fail
    refine (keysB_any _ _).mono ?_
    rintro e w' ⟨rfl, rfl⟩
    go_wp2_with fail
    refine Calls.mono (Hid.out hS) ?_
    rintro e w2 ⟨v, rfl, h2, h3, h4⟩
    go_wp2
    go_ret
    exact ⟨v, rfl, ownsRow_base_a h2 (by omega), h3, hB1.trans (h4.mono (by omega))⟩
  clear hB1 hs1
  go_enter Tryz.func19, Tryz.ntmps19
  go_wp2_with fail
  refine (void_any V S N _ h).mono ?_
  rintro e w' ⟨rfl, hw⟩
  obtain rfl := hw.symm
  go_wp2_with fail
  refine Calls.mono (Hid.out HS) ?_
  rintro e w2 ⟨v, rfl, h2, h3, h4⟩
  go_wp2
  go_ret
  exact ⟨v, rfl, h2, h3, h4⟩

end Go.Proofs.YtomlbifplliakaaGreat
