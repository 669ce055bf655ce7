/- Contracts of Flush, Evict and Stop. -/
import Derived.Test.YtfalchacdebdpaaOps2
namespace Go.Proofs.Ytfalchacdebdpaa
open Go.RowKit Go.Maps Go.ChangeMaps

/-- What is on the way when t words of line q have been looked at. -/
def wayTo (M : Mem) (q t : Nat) : Int → Option Int := fun k => if 8 * (q : Int) ≤ k ∧ k < 8 * q + t ∧ (M.loose k).isSome = true then M.loose k else M.way k
theorem wayTo_zero (M : Mem) (q : Nat) (k : Int) : M.way k = wayTo M q 0 k := by
  unfold wayTo; rw [if_neg]; intro h; omega
theorem wayTo_eight (M : Mem) (q : Nat) (k : Int) : wayOf M q k = wayTo M q 8 k := by
  unfold wayTo wayOf
  by_cases h : k / 8 = q
  · have h1 : 8 * (q : Int) ≤ k := by omega
    have h2 : k < 8 * q + (8 : Nat) := by omega
    simp only [h, h1, h2, true_and]
  · rw [if_neg (fun x => h x.1), if_neg]
    intro x; omega
theorem wayTo_none (M : Mem) (q t : Nat) (hl : M.loose (8 * q + t) = none) (k : Int) : wayTo M q (t + 1) k = wayTo M q t k := by
  unfold wayTo
  by_cases e : k = 8 * q + t
  · subst e; rw [if_neg, if_neg]
    · simp [hl]
    · simp [hl]
  · have : (k < 8 * (q : Int) + (t + 1 : Nat)) ↔ (k < 8 * (q : Int) + t) := by omega
    simp only [this]
theorem wayTo_some (M : Mem) (q t : Nat) (v : Int) (hl : M.loose (8 * q + t) = some v) (k : Int) : wayTo M q (t + 1) k = upd (wayTo M q t) (8 * q + t) (some v) k := by
  unfold wayTo upd
  by_cases e : k = 8 * q + t
  · subst e; rw [if_pos, if_pos rfl, hl]
    refine ⟨by omega, by omega, by simp [hl]⟩
  · rw [if_neg (c := k = 8 * (q : Int) + t) e]
    have : (k < 8 * (q : Int) + (t + 1 : Nat)) ↔ (k < 8 * (q : Int) + t) := by omega
    simp only [this]
theorem wayTo_in (M : Mem) (q t : Nat) (hl : ∀ k v, M.loose k = some v → 0 ≤ k ∧ k < M.sure.length) (hw : ∀ k v, M.way k = some v → 0 ≤ k ∧ k < M.sure.length) (k v : Int) (h : wayTo M q t k = some v) : 0 ≤ k ∧ k < M.sure.length := by
  unfold wayTo at h
  split at h
  · exact hl k v h
  · exact hw k v h

set_option maxHeartbeats 1000000 in
theorem flush_any (L : Lay) (M : Mem) (k : Int) (w : World) (h : MemIs w L M) (hc : M.calls < 1000000000) :
    Calls Try.prog 47 #[.pointer (some ⟨L.mb, 0, none⟩), .int .i64 k] w fun e w' => e = .returned (.int .i64 (M.errAt k)) ∧ MemIs w' L (M.flush k) ∧ Only L.blocks w w' := by
  rcases errAt_cases M k with he | he | ⟨he, hh⟩
  · have hst : M.flush k = M.counted := by simp [Mem.flush, he]
    rw [hst, he]
    go_enter Try.func47, Try.ntmps47
    go_wp2_with (go_at_call 66; refine (countAt_any L M k _ h hc).mono ?_; rintro e w' ⟨rfl, h1, o1⟩; rw [he])
    go_ret
    exact ⟨rfl, h1, only_sub o1 (by simp [Lay.blocks])⟩
  · have hst : M.flush k = M.counted := by simp [Mem.flush, he]
    rw [hst, he]
    go_enter Try.func47, Try.ntmps47
    go_wp2_with (go_at_call 66; refine (countAt_any L M k _ h hc).mono ?_; rintro e w' ⟨rfl, h1, o1⟩; rw [he])
    go_ret
    exact ⟨rfl, h1, only_sub o1 (by simp [Lay.blocks])⟩
  · have hst : M.flush k = { M.counted with way := wayOf M (k / 8) } := by simp [Mem.flush, he]
    rw [hst, he]
    clear hst
    have hb : 0 ≤ k ∧ k < M.sure.length := by simpa [Mem.has] using hh
    have hlen := h.len
    obtain ⟨q, hq⟩ : ∃ q : Nat, k / 8 = q := ⟨(k / 8).toNat, by omega⟩
    have hq8 : q < 512 := by omega
    have hk1 : k - k % 8 = 8 * (q : Int) := by omega
    have HQ : Hid (k / 8 = q) := hq
    clear hq
    go_enter Try.func47, Try.ntmps47
    go_wp2_with (go_at_call 66; refine (countAt_any L M k _ h hc).mono ?_; rintro e w1 ⟨rfl, h1, o1⟩; rw [he])
    go_loopw [7] (fun i wr => ∃ t : Nat, t ≤ 8 ∧ i = .int .i64 (8 * (q : Int) + t) ∧ MapIs wr L.wb (8 * M.calls + t) (wayTo M q t) ∧ Only [L.wb] w1 wr) (fun i _ => (8 * (q : Int) + 8 - intOf i).toNat)
    case atStart =>
      refine ⟨0, by omega, by simp [*], ?_, Only.refl _ _⟩
      exact (h.way.of_block (o1.block _ h.way.lt (by simp [h.mb_wb.symm]))).congr (fun j => (wayTo_zero M q j).symm)
    case round =>
      obtain ⟨t, ht, rfl, hm, ho⟩ := hrel
      by_cases hlt : t < 8
      · have hM : MemIs wr L { M.counted with way := wayTo M q t } := h1.newWay hm (by show 8 * M.calls + t ≤ 8 * (M.calls + 1); omega) ho (wayTo_in M q t h.looseIn h.wayIn)
        have c1 := hM.c1
        have c2 := hM.c2
        have hwk : (Lit.int .i64 (8 * (q : Int) + t)).wf = true := WalkArith.wf_i64 (by omega)
        cases hl : M.loose (8 * (q : Int) + t) with
        | none =>
          go_wp2_with (first
            | (at_lookup; refine wpList_look2 _ rfl _ _ rfl L.lb _ M.loose (8 * (q : Int) + t) 0 false rfl hM.loose rfl hwk (by rw [hl]; rfl) (by rw [hl]; rfl) ?_)
            | go_in)
          go_roundw
          case rel => exact ⟨t + 1, by omega, by go_num, (hm.mono (by omega)).congr (wayTo_none M q t hl), ho⟩
          case measure => simp [intOf]; omega
        | some v =>
          have hwv := hM.loose.wf hl
          go_wp2_with (first
            | (at_lookup; refine wpList_look2 _ rfl _ _ rfl L.lb _ M.loose (8 * (q : Int) + t) v true rfl hM.loose rfl hwk (by rw [hl]; rfl) (by rw [hl]; rfl) ?_)
            | (at_mapUpdate; refine wpList_put _ rfl _ _ _ rfl L.wb _ _ (8 * (q : Int) + t) v rfl hm (by unfold maxLen; omega) rfl rfl hwk hwv ?_; intro w2 hm2 ht2)
            | go_in)
          go_roundw
          case rel => exact ⟨t + 1, by omega, by go_num, hm2.congr (wayTo_some M q t v hl), ho.turned ht2 (by simp)⟩
          case measure => simp [intOf]; omega
      · obtain rfl : t = 8 := by omega
        go_wp2
        go_ret
        refine ⟨rfl, ?_, (only_sub o1 (by simp [Lay.blocks])).trans (only_sub ho (by simp [Lay.blocks]))⟩
        rw [HQ.out]
        exact h1.newWay (hm.congr (wayTo_eight M q)) (by show 8 * M.calls + 8 ≤ 8 * (M.calls + 1); omega) ho (fun j x hj => by rw [wayTo_eight] at hj; exact wayTo_in M q 8 h.looseIn h.wayIn j x hj)

theorem upd_in {f : Int → Option Int} {n : Nat} (hf : ∀ k v, f k = some v → 0 ≤ k ∧ k < (n : Int)) (k j v : Int) (h : upd f k none j = some v) : 0 ≤ j ∧ j < (n : Int) := by
  by_cases e : j = k
  · subst e; rw [upd_same] at h; cases h
  · rw [upd_other _ _ e] at h; exact hf j v h

theorem evict_any (L : Lay) (M : Mem) (k : Int) (w : World) (h : MemIs w L M) (hk : (Lit.int .i64 k).wf = true) :
    Calls Try.prog 22 #[.pointer (some ⟨L.mb, 0, none⟩), .int .i64 k] w fun e w' => e = .returned (.tuple #[]) ∧ MemIs w' L (M.evict k) ∧ Only L.blocks w w' := by
  have c1 := h.c1
  cases hl : M.loose k with
  | none =>
    have hm : M.evict k = M := by simp [Mem.evict, hl]
    rw [hm]
    go_enter Try.func22, Try.ntmps22
    go_wp2_with (first
      | (at_lookup; refine wpList_look2 _ rfl _ _ rfl L.lb _ M.loose k 0 false rfl h.loose rfl hk (by rw [hl]; rfl) (by rw [hl]; rfl) ?_)
      | go_in)
    (try simp only [Exit.inBlock, Exit.then]); refine bodyPost_ret (results_none rfl _ _ _) rfl ?_
    exact ⟨rfl, h, Only.refl _ _⟩
  | some v =>
    have hm : M.evict k = { M with sure := M.sure.set k.toNat v, loose := upd M.loose k none, way := upd M.way k none } := by simp [Mem.evict, hl]
    rw [hm]
    have hin := h.looseIn k v hl
    obtain ⟨j, rfl⟩ : ∃ j : Nat, k = j := ⟨k.toNat, by omega⟩
    have hj : j < M.sure.length := by omega
    have hwv := h.loose.wf hl
    have e := h.some_of_pos (Nat.zero_lt_of_lt hj)
    have c0 := h.c0
    have cs := h.sureCell j hj
    have fs := h.sureFz j hj
    rw [e] at c0
    have h1 := h.newSure j v hj hwv
    have c1' := h1.c1
    go_enter Try.func22, Try.ntmps22
    go_wp2_with (first
      | (at_lookup; refine wpList_look2 _ rfl _ _ rfl L.lb _ M.loose j v true rfl h.loose rfl hk (by rw [hl]; rfl) (by rw [hl]; rfl) ?_)
      | (at_delete; refine wpList_del _ rfl _ _ rfl L.lb _ M.loose j rfl h1.loose rfl hk ?_; intro w2 hm2 ht2; have h2 := h1.newLoose hm2 (Nat.le_refl _) ((Only.refl _ _).turned ht2 (by simp)) (by simpa using upd_in h.looseIn j); have c2 := h2.c2)
      | (at_delete; refine wpList_del _ rfl _ _ rfl L.wb _ M.way j rfl h2.way rfl hk ?_; intro w3 hm3 ht3)
      | go_in)
    go_end0
    refine ⟨rfl, h2.newWay hm3 (Nat.le_refl _) ((Only.refl _ _).turned ht3 (by simp)) (by simpa using upd_in h.wayIn j), ?_⟩
    exact (((Only.refl _ _).setCell (by simp [Lay.blocks]) _).turned ht2 (by simp [Lay.blocks])).turned ht3 (by simp [Lay.blocks])

theorem stop_any (L : Lay) (M : Mem) (n : Int) (w : World) (h : MemIs w L M) (hc : M.calls < 1000000000) :
    Calls Try.prog 49 #[.pointer (some ⟨L.mb, 0, none⟩), .int .i64 n] w fun e w' => e = .returned (.tuple #[]) ∧ MemIs w' L (M.stop n) ∧ Only L.blocks w w' := by
  have c4 := h.c4
  have c5 := h.c5
  have f4 := h.fz 4
  have f5 := h.fz 5
  have h1 : MemIs ((w.setCell ⟨L.mb, 4, none⟩ (.bool false)).setCell ⟨L.mb, 5, none⟩ (.int .i64 0)) L { M with stops := false, stopAt := 0 } :=
    h.fields (Nat.le_refl _) (heap_set5 (heap_set4 h.obj _) _) (fun k hk => (Below.heap_setCell _ _ _ _ hk).trans (Below.heap_setCell _ _ _ _ hk))
  have o1 : Only L.blocks w ((w.setCell ⟨L.mb, 4, none⟩ (.bool false)).setCell ⟨L.mb, 5, none⟩ (.int .i64 0)) :=
    ((Only.refl _ _).setCell (by simp [Lay.blocks]) _).setCell (by simp [Lay.blocks]) _
  have c3' := h1.c3
  have f4' := h1.fz 4
  have f5' := h1.fz 5
  by_cases h0 : 0 ≤ n
  · by_cases h2 : n ≤ 1099511627776
    · have hm : M.stop n = { M with stops := true, stopAt := M.calls + n } := by simp [Mem.stop, h0, h2]
      rw [hm]
      go_enter Try.func49, Try.ntmps49
      go_wp2
      go_end0
      refine ⟨rfl, ?_, (o1.setCell (by simp [Lay.blocks]) _).setCell (by simp [Lay.blocks]) _⟩
      exact h1.fields (Nat.le_refl _) (heap_set5 (heap_set4 h1.obj _) _) (fun k hk => (Below.heap_setCell _ _ _ _ hk).trans (Below.heap_setCell _ _ _ _ hk))
    · have hm : M.stop n = { M with stops := false, stopAt := 0 } := by simp [Mem.stop, h2]
      rw [hm]
      go_enter Try.func49, Try.ntmps49
      go_wp2
      go_end0
      exact ⟨rfl, h1, o1⟩
  · have hm : M.stop n = { M with stops := false, stopAt := 0 } := by simp [Mem.stop, h0]
    rw [hm]
    go_enter Try.func49, Try.ntmps49
    go_wp2
    go_end0
    exact ⟨rfl, h1, o1⟩

end Go.Proofs.Ytfalchacdebdpaa
