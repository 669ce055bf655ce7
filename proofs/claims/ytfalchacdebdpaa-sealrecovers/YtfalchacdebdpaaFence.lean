/- Fence's contract. -/
import Derived.Test.YtfalchacdebdpaaFlush
namespace Go.Proofs.Ytfalchacdebdpaa
open Go.RowKit Go.Maps Go.ChangeMaps

theorem fenceTo_sure (M : Mem) (lf : Int → Bool) : (fenceTo M lf).sure = sureTo M lf := rfl
theorem sureTo_start (M : Mem) (lf : Int → Bool) (h : ∀ k, lf k = (M.way k).isSome) : sureTo M lf = M.sure := by
  apply List.ext_getElem (by simp [sureTo])
  intro i h1 h2
  simp only [sureTo, List.getElem_map, List.getElem_range]
  rw [h]
  cases hw : M.way i with
  | none => simp [h2]
  | some v => simp [h2]
theorem looseTo_start (M : Mem) (lf : Int → Bool) (h : ∀ k, lf k = (M.way k).isSome) (k : Int) : looseTo M lf k = M.loose k := by
  unfold looseTo
  rw [if_neg]
  rw [h]
  rintro ⟨h1, h2, _⟩
  rw [h2] at h1; cases h1
theorem sureTo_step (M : Mem) (lf lf' : Int → Bool) (x : Nat) (c : Int) (hw : M.way x = some c) (h : ∀ k, lf' k = (lf k && !decide (k = (x : Int)))) : sureTo M lf' = (sureTo M lf).set x c := by
  apply List.ext_getElem (by simp [sureTo])
  intro i h1 h2
  rw [List.getElem_set]
  simp only [sureTo, List.getElem_map, List.getElem_range]
  rw [h]
  by_cases e : x = i
  · subst e; simp [hw]
  · have : (i : Int) ≠ (x : Int) := by omega
    simp [e, this]
theorem looseTo_hit (M : Mem) (lf lf' : Int → Bool) (x c : Int) (hw : M.way x = some c) (hl : (M.loose x).getD 0 = c) (h : ∀ k, lf' k = (lf k && !decide (k = x))) (k : Int) : looseTo M lf' k = upd (looseTo M lf) x none k := by
  by_cases e : k = x
  · subst e
    rw [upd_same]
    unfold looseTo
    rw [h]
    cases hm : M.loose k with
    | none => simp
    | some v => rw [hm] at hl; simp at hl; subst hl; simp [hw]
  · rw [upd_other _ _ e]
    unfold looseTo
    rw [h]; simp [e]
theorem looseTo_miss (M : Mem) (lf lf' : Int → Bool) (x c : Int) (hlf : lf x = true) (hw : M.way x = some c) (hl : (M.loose x).getD 0 ≠ c) (h : ∀ k, lf' k = (lf k && !decide (k = x))) (k : Int) : looseTo M lf' k = looseTo M lf k := by
  unfold looseTo
  rw [h]
  by_cases e : k = x
  · subst e
    rw [if_neg, if_neg]
    · simp [hlf]
    · rintro ⟨_, _, h3⟩
      rw [h3, hw] at hl; exact hl rfl
  · simp [e]
theorem looseTo_in (M : Mem) (lf : Int → Bool) (hl : ∀ k v, M.loose k = some v → 0 ≤ k ∧ k < M.sure.length) (k v : Int) (h : looseTo M lf k = some v) : 0 ≤ k ∧ k < M.sure.length := by
  unfold looseTo at h
  split at h
  · cases h
  · exact hl k v h
theorem looseTo_at (M : Mem) (lf : Int → Bool) (x : Int) (h : lf x = true) : looseTo M lf x = M.loose x := by
  unfold looseTo; rw [if_neg]; simp [h]

theorem sameKey_int (k x : Int) : (Lit.int .i64 k).sameKey (.int .i64 x) = decide (k = x) := by
  by_cases e : k = x
  · subst e; simp [WideAt.sameKey_self (a := .int .i64 k) trivial]
  · rw [sameKey_ne (key_ne e)]; simp [e]

theorem grownBy_setCell (w : World) (a : Addr) (u : Value) : w.grownBy (w.setCell a u) (some a.block) :=
  ⟨rfl, rfl, rfl, by simp [World.setCell], fun k _ hk => Below.heap_setCell _ _ _ _ (fun e => hk (by rw [e]))⟩

theorem Only.grownNew {S : List Nat} {a w w' : World} {r : Nat} (h : Only S a w) (hg : w.grownBy w' (some r)) (hr : a.heap.size ≤ r) : Only S a w' :=
  ⟨hg.os.trans h.os, hg.tape.trans h.tape, hg.output.trans h.output, Nat.le_trans h.size hg.size, fun k hk hn => (hg.block k (Nat.lt_of_lt_of_le hk h.size) (fun e => by cases e; omega)).trans (h.block k hk hn)⟩

theorem MemIs.all_lt {w : World} {L : Lay} {M : Mem} (h : MemIs w L M) : ∀ k ∈ L.blocks, k < w.heap.size := by
  have hs : L.sb < w.heap.size := by
    rcases h.place with ⟨_, e⟩ | e
    · rw [e]; exact h.lt
    · obtain ⟨cur, hb⟩ := h.rowAt e
      exact (Array.getElem?_eq_some_iff.1 hb).1
  have h1 := h.lt
  have h2 := h.loose.lt
  have h3 := h.way.lt
  intro k hk
  simp only [Lay.blocks, List.mem_cons, List.not_mem_nil, or_false] at hk
  rcases hk with rfl | rfl | rfl | rfl <;> assumption

set_option maxHeartbeats 1600000 in
set_option maxRecDepth 100000 in
theorem fence_any (L : Lay) (M : Mem) (w : World) (h : MemIs w L M) (hc : M.calls < 1000000000) :
    Calls Try.prog 48 #[.pointer (some ⟨L.mb, 0, none⟩)] w fun e w' => e = .returned (.int .i64 M.err) ∧ MemIs w' L M.fence ∧ Only L.blocks w w' := by
  by_cases he : M.err = 0
  · have hst : M.fence = { fenceTo M (fun _ => false) with way := fun _ => none } := by simp [Mem.fence, he]
    rw [hst, he]
    clear hst
    go_enter Try.func48, Try.ntmps48
    go_wp2_with (first
      | (go_at_call 67; refine (count_any L M _ h hc).mono ?_; rintro e w1 ⟨rfl, h1, o1⟩; rw [he]; have c2 := h1.c2; obtain ⟨D, hD, hR⟩ := h1.way)
      | (at_range; refine wpList_range_own _ rfl _ 87 rfl 3 22 law3 Try.underlying87 _ L.wb _ D rfl hD ?_; intro w0 hrg0 hg0 hs0)
      | go_in)
    go_frame
    have hR' : ∀ k, Maps.has D (.int .i64 k) = (M.way k).isSome := fun k => (hR k).1
    have hall := h1.all_lt
    go_loopw [4] (fun _ wr => ∃ (left : Lit → Bool) (cnt : Nat), wr.ranges Try.prog 3 (plainElem Try.prog 22) L.wb w1.heap.size (8 * M.counted.calls) D left cnt ∧ MemIs wr L (fenceTo M fun k => left (.int .i64 k)) ∧ Only L.blocks w wr)
      (fun _ wr => wr.rangeLeft L.wb w1.heap.size)
    case atStart =>
      refine ⟨_, _, hrg0, ?_, (only_sub o1 (by simp [Lay.blocks])).grown hg0 (fun k e => by cases e)⟩
      have h2 : MemIs w0 L M.counted := h1.kept ((Only.refl [] _).grown hg0 (fun k e => by cases e)) (by simp)
      exact h2.congr (sureTo_start M _ hR') (looseTo_start M _ hR') (fun _ => rfl) rfl rfl rfl
    case round =>
      obtain ⟨left, cnt, hrg, hM, ho⟩ := hrel
      have c2' := hM.c2
      go_wp2_with (first
        | (at_next; refine wpList_next_ranges_ii _ rfl _ rfl 3 22 .i64 .u64 law3 Try.underlying3 Try.underlying22 L.wb w1.heap.size _ _ _ _ rfl hrg ?_ ?_)
        | go_in)
      · intro _ hl0
        go_wp2_with (first
          | (refine wpList_clear _ rfl _ rfl L.wb _ _ rfl hM.way ?_; intro w2 hm2 ht2)
          | go_in)
        go_ret
        have hlf : (fun k : Int => left (.int .i64 k)) = fun _ => false := funext fun k => hl0 _
        rw [hlf] at hM
        refine ⟨rfl, hM.newWay hm2 (Nat.zero_le _) ((Only.refl _ _).turned ht2 (by simp)) (fun _ _ x => by cases x), ho.turned ht2 (by simp [Lay.blocks])⟩
      · intro x c w2 cnt2 hwx hwc hlx hat hrg2 hlt hg2 hs2 hen
        have hw : M.way x = some c := by
          have hh := has_true_of_atKey hat
          rw [hR'] at hh
          obtain ⟨v, hv⟩ := Option.isSome_iff_exists.1 hh
          have := (hR x).2 v hv (.lit (.int .u64 0))
          rw [hat] at this
          cases this
          exact hv
        have hin := h.wayIn x c hw
        obtain ⟨j, rfl⟩ : ∃ j : Nat, x = j := ⟨x.toNat, by omega⟩
        have hj : j < M.sure.length := by omega
        have hj' : j < (fenceTo M fun k => left (.int .i64 k)).sure.length := by rw [fenceTo_sure, sureTo_len]; exact hj
        have hr : ∀ k ∈ L.blocks, some k ≠ some w1.heap.size := fun k hk e => by have := hall k hk; cases e; omega
        have hM2 : MemIs w2 L (fenceTo M fun k => left (.int .i64 k)) := hM.of_blocks fun k hk hl => hg2.block k hl (hr k hk)
        have ho2 : Only L.blocks w w2 := ho.grownNew hg2 o1.size
        have e := hM2.some_of_pos (Nat.zero_lt_of_lt hj')
        have hb2 : L.sb ≠ L.wb := hM2.sb_wb e
        have hlf' : ∀ k : Int, (left (.int .i64 k) && !(Lit.int .i64 k).sameKey (.int .i64 (j : Int))) = (left (.int .i64 k) && !decide (k = (j : Int))) := fun k => by rw [sameKey_int]
        have c0 := hM2.c0
        rw [e, fenceTo_sure, sureTo_len] at c0
        have cs := hM2.sureCell j hj'
        have fs := hM2.sureFz j hj'
        have h3 := hM2.newSure j c hj' hwc
        have c1 := h3.c1
        have hrg3 := hrg2.kept (grownBy_setCell w2 ⟨L.sb, j, none⟩ (.int .u64 c)) (fun x => hb2 (Option.some.inj x).symm) (fun x => by have := hall L.sb (by simp [Lay.blocks]); have := Option.some.inj x; simp only at this; omega)
        have ho3 : Only L.blocks w (w2.setCell ⟨L.sb, j, none⟩ (.int .u64 c)) := ho2.setCell (by simp [Lay.blocks]) _
        have hll : looseTo M (fun k => left (.int .i64 k)) j = M.loose j := looseTo_at M _ _ hlx
        generalize hw3 : w2.setCell ⟨L.sb, j, none⟩ (.int .u64 c) = w3 at *
        have hl3 : MapIs w3 L.lb (8 * M.counted.calls) (looseTo M fun k => left (.int .i64 k)) := h3.loose
        by_cases hv : (M.loose j).getD 0 = c
        · have hv' : (looseTo M (fun k => left (.int .i64 k)) j).getD 0 = c := by rw [hll]; exact hv
          go_wp2_with (first
            | (at_lookup; refine wpList_look1 _ rfl _ _ rfl L.lb _ _ j c rfl hl3 rfl hwx hv' ?_)
            | (at_delete; refine wpList_del _ rfl _ _ rfl L.lb _ _ j rfl hl3 rfl hwx ?_; intro w4 hm4 ht4; go_frame)
            | go_in)
          have hrg4 := hrg3.kept ht4.grown (fun x => h.ne (Option.some.inj x).symm) (fun x => by have := hall L.lb (by simp [Lay.blocks]); have := Option.some.inj x; omega)
          go_roundw
          case rel =>
            refine ⟨_, cnt2, hrg4, ?_, ho3.turned ht4 (by simp [Lay.blocks])⟩
            have h4 := h3.newLoose hm4 (Nat.le_refl _) ((Only.refl _ _).turned ht4 (by simp)) (by simpa [fenceTo_sure, sureTo_len] using upd_in (looseTo_in M _ h.looseIn) j)
            exact h4.congr (sureTo_step M _ _ j c hw hlf') (looseTo_hit M _ _ j c hw hv hlf') (fun _ => rfl) rfl rfl rfl
          case measure => rw [hrg4.left_eq, hrg.left_eq]; omega
        · have hv' : (looseTo M (fun k => left (.int .i64 k)) j).getD 0 = (M.loose j).getD 0 := by rw [hll]
          go_wp2_with (first
            | (at_lookup; refine wpList_look1 _ rfl _ _ rfl L.lb _ _ j _ rfl hl3 rfl hwx hv' ?_)
            | go_in)
          go_roundw
          case rel =>
            refine ⟨_, cnt2, hrg3, ?_, ho3⟩
            exact h3.congr (sureTo_step M _ _ j c hw hlf') (looseTo_miss M _ _ j c hlx hw hv hlf') (fun _ => rfl) rfl rfl rfl
          case measure => rw [hrg3.left_eq, hrg.left_eq]; omega
  · have hst : M.fence = M.counted := by simp [Mem.fence, he]
    have he' : M.err = 14 := by unfold Mem.err at he ⊢; split <;> simp_all
    rw [hst, he']
    go_enter Try.func48, Try.ntmps48
    go_wp2_with (go_at_call 67; refine (count_any L M _ h hc).mono ?_; rintro e w1 ⟨rfl, h1, o1⟩; rw [he'])
    go_ret
    exact ⟨rfl, h1, only_sub o1 (by simp [Lay.blocks])⟩

end Go.Proofs.Ytfalchacdebdpaa
