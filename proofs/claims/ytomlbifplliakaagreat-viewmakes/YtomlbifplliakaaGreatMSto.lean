/- Contracts of storing. -/
import Derived.Test.YtomlbifplliakaaGreatMOps
namespace Go.Proofs.YtomlbifplliakaaGreat
open Go.RowKit Go.Maps Go.ChangeMaps

theorem count_any (L : Lay) (M : Mem) (w : World) (h : MemIs w L M) (hc : M.calls < 1000000000) :
    Calls Tryz.prog 68 #[.pointer (some ⟨L.mb, 0, none⟩)] w fun e w' => e = .returned (.int .i64 M.err) ∧ MemIs w' L M.counted ∧ Only [L.mb] w w' := by
  have c3 := h.c3
  have c4 := h.c4
  have c5 := h.c5
  have f3 := h.fz 3
  have fin : ∀ q, MemIs ((w.drewN q).setCell ⟨L.mb, 3, none⟩ (.int .i64 ((M.calls : Int) + 1))) L M.counted ∧ Only [L.mb] w ((w.drewN q).setCell ⟨L.mb, 3, none⟩ (.int .i64 ((M.calls : Int) + 1))) := by
    intro q
    have hd : MemIs (w.drewN q) L M := ⟨h.obj, h.row, h.place, h.loose, h.way, h.ne, h.looseIn, h.wayIn, h.len, h.words⟩
    have ho : Only [L.mb] w (w.drewN q) := ⟨rfl, rfl, rfl, Nat.le_refl _, fun _ _ _ => rfl⟩
    refine ⟨?_, ho.setCell (by simp) _⟩
    have e : ((M.calls : Int) + 1) = ((M.calls + 1 : Nat) : Int) := by omega
    rw [e]
    exact hd.fields (Nat.le_succ _) (heap_set3 hd.obj _) (fun k hk => Below.heap_setCell _ _ _ _ hk)
  clear h
  cases hs : M.stops with
  | false =>
    rw [hs] at c4
    have herr : M.err = 0 := by simp [Mem.err, Mem.still, hs]
    rw [herr]
    go_enter Tryz.func68, Tryz.ntmps68
    go_wp2
    go_quiet (fail)
    go_wp2
    go_ret
    exact ⟨rfl, fin _⟩
  | true =>
    rw [hs] at c4
    by_cases ht : M.stopAt ≤ M.calls
    · have herr : M.err = 14 := by simp [Mem.err, Mem.still, hs, ht]
      rw [herr]
      have ht' : decide (M.stopAt ≤ (M.calls : Int)) = true := by simpa using ht
      go_enter Tryz.func68, Tryz.ntmps68
      go_wp2
      go_quiet (fail)
      go_wp2
      go_ret
      exact ⟨rfl, fin _⟩
    · have herr : M.err = 0 := by simp [Mem.err, Mem.still, hs, ht]
      rw [herr]
      have ht' : decide (M.stopAt ≤ (M.calls : Int)) = false := by simpa using ht
      go_enter Tryz.func68, Tryz.ntmps68
      go_wp2
      go_quiet (fail)
      go_wp2
      go_ret
      exact ⟨rfl, fin _⟩

theorem countAt_any (L : Lay) (M : Mem) (k : Int) (w : World) (h : MemIs w L M) (hc : M.calls < 1000000000) :
    Calls Tryz.prog 50 #[.pointer (some ⟨L.mb, 0, none⟩), .int .i64 k] w fun e w' => e = .returned (.int .i64 (M.errAt k)) ∧ MemIs w' L M.counted ∧ Only [L.mb] w w' := by
  cases hst : M.still with
  | true =>
    have e1 : M.err = 14 := by simp [Mem.err, hst]
    have e2 : M.errAt k = 14 := by simp [Mem.errAt, hst]
    rw [e2]
    go_enter Tryz.func50, Tryz.ntmps50
    go_wp2_with (go_at_call 68; refine (count_any L M _ h hc).mono ?_; rintro e w' ⟨rfl, h1, o1⟩; rw [e1])
    go_ret
    exact ⟨rfl, h1, o1⟩
  | false =>
    have e1 : M.err = 0 := by simp [Mem.err, hst]
    cases hh : M.has k with
    | true =>
      have e2 : M.errAt k = 0 := by simp [Mem.errAt, hst, hh]
      have e3 : M.counted.has k = true := hh
      rw [e2]
      go_enter Tryz.func50, Tryz.ntmps50
      go_wp2_with (first
        | (go_at_call 68; refine (count_any L M _ h hc).mono ?_; rintro e w' ⟨rfl, h1, o1⟩; rw [e1])
        | (go_at_call 52; refine (has_any L M.counted k _ h1).mono ?_; rintro e w' ⟨rfl, rfl⟩; rw [e3]))
      go_ret
      exact ⟨rfl, h1, o1⟩
    | false =>
      have e2 : M.errAt k = 1 := by simp [Mem.errAt, hst, hh]
      have e3 : M.counted.has k = false := hh
      rw [e2]
      go_enter Tryz.func50, Tryz.ntmps50
      go_wp2_with (first
        | (go_at_call 68; refine (count_any L M _ h hc).mono ?_; rintro e w' ⟨rfl, h1, o1⟩; rw [e1])
        | (go_at_call 52; refine (has_any L M.counted k _ h1).mono ?_; rintro e w' ⟨rfl, rfl⟩; rw [e3]))
      go_ret
      exact ⟨rfl, h1, o1⟩

theorem store_any (L : Lay) (M : Mem) (k v : Int) (w : World) (h : MemIs w L M) (hc : M.calls < 1000000000) (hk : (Lit.int .i64 k).wf = true) (hv : (Lit.int .u64 v).wf = true) :
    Calls Tryz.prog 14 #[.pointer (some ⟨L.mb, 0, none⟩), .int .i64 k, .int .u64 v] w fun e w' => e = .returned (.int .i64 (M.errAt k)) ∧ MemIs w' L (M.store k v) ∧ Only L.blocks w w' := by
  rcases errAt_cases M k with he | he | ⟨he, hh⟩
  · have hst : M.store k v = M.counted := by simp [Mem.store, he]
    rw [hst, he]
    go_enter Tryz.func14, Tryz.ntmps14
    go_wp2_with (go_at_call 50; refine (countAt_any L M k _ h hc).mono ?_; rintro e w' ⟨rfl, h1, o1⟩; rw [he])
    go_ret
    exact ⟨rfl, h1, only_sub o1 (by simp [Lay.blocks])⟩
  · have hst : M.store k v = M.counted := by simp [Mem.store, he]
    rw [hst, he]
    go_enter Tryz.func14, Tryz.ntmps14
    go_wp2_with (go_at_call 50; refine (countAt_any L M k _ h hc).mono ?_; rintro e w' ⟨rfl, h1, o1⟩; rw [he])
    go_ret
    exact ⟨rfl, h1, only_sub o1 (by simp [Lay.blocks])⟩
  · have hst : M.store k v = { M.counted with loose := upd M.loose k (some v) } := by simp [Mem.store, he]
    rw [hst, he]
    go_enter Tryz.func14, Tryz.ntmps14
    go_wp2_with (first
      | (go_at_call 50; refine (countAt_any L M k _ h hc).mono ?_; rintro e w1 ⟨rfl, h1, o1⟩; rw [he]; have c1 := h1.c1)
      | (at_mapUpdate; refine wpList_put _ rfl _ _ _ rfl L.lb (8 * M.calls) M.loose k v rfl (h.loose.of_block (o1.block _ h.loose.lt (by simp [h.mb_lb.symm]))) (by unfold maxLen; omega) rfl rfl hk hv ?_; intro w2 hm2 ht2)
      | go_in)
    go_ret
    refine ⟨rfl, h1.newLoose hm2 (by show 8 * M.calls + 1 ≤ 8 * (M.calls + 1); omega) ((Only.refl _ _).turned ht2 (by simp)) ?_, ?_⟩
    · intro j x hj
      by_cases e : j = k
      · subst e; simpa [Mem.has, Mem.counted] using hh
      · rw [upd_other _ _ e] at hj; exact h.looseIn j x hj
    · exact (only_sub o1 (by simp [Lay.blocks])).turned ht2 (by simp [Lay.blocks])

end Go.Proofs.YtomlbifplliakaaGreat
