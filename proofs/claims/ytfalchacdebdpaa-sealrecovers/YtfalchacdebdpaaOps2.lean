/- Contracts of storing and reading. -/
import Derived.Test.YtfalchacdebdpaaOps
namespace Go.Proofs.Ytfalchacdebdpaa
open Go.RowKit Go.Maps Go.ChangeMaps

theorem has_any (L : Lay) (M : Mem) (k : Int) (w : World) (h : MemIs w L M) :
    Calls Try.prog 51 #[.pointer (some ⟨L.mb, 0, none⟩), .int .i64 k] w fun e w' => e = .returned (.bool (M.has k)) ∧ w' = w := by
  have hs := size_any L M
  by_cases h0 : 0 ≤ k
  · go_enter Try.func51, Try.ntmps51
    go_wp2_with (go_at_call 28; refine (hs _ h).mono ?_; rintro e w' ⟨rfl, rfl⟩)
    all_goals
      go_ret
      exact ⟨ret_bool (by simp [Mem.has, *]), rfl⟩
  · go_enter Try.func51, Try.ntmps51
    go_wp2
    go_ret
    exact ⟨ret_bool (by simp [Mem.has]; omega), rfl⟩

theorem countAt_any (L : Lay) (M : Mem) (k : Int) (w : World) (h : MemIs w L M) (hc : M.calls < 1000000000) :
    Calls Try.prog 66 #[.pointer (some ⟨L.mb, 0, none⟩), .int .i64 k] w fun e w' => e = .returned (.int .i64 (M.errAt k)) ∧ MemIs w' L M.counted ∧ Only [L.mb] w w' := by
  cases hst : M.still with
  | true =>
    have e1 : M.err = 14 := by simp [Mem.err, hst]
    have e2 : M.errAt k = 14 := by simp [Mem.errAt, hst]
    rw [e2]
    go_enter Try.func66, Try.ntmps66
    go_wp2_with (go_at_call 67; refine (count_any L M _ h hc).mono ?_; rintro e w' ⟨rfl, h1, o1⟩; rw [e1])
    go_ret
    exact ⟨rfl, h1, o1⟩
  | false =>
    have e1 : M.err = 0 := by simp [Mem.err, hst]
    cases hh : M.has k with
    | true =>
      have e2 : M.errAt k = 0 := by simp [Mem.errAt, hst, hh]
      have e3 : M.counted.has k = true := hh
      rw [e2]
      go_enter Try.func66, Try.ntmps66
      go_wp2_with (first
        | (go_at_call 67; refine (count_any L M _ h hc).mono ?_; rintro e w' ⟨rfl, h1, o1⟩; rw [e1])
        | (go_at_call 51; refine (has_any L M.counted k _ h1).mono ?_; rintro e w' ⟨rfl, rfl⟩; rw [e3]))
      go_ret
      exact ⟨rfl, h1, o1⟩
    | false =>
      have e2 : M.errAt k = 1 := by simp [Mem.errAt, hst, hh]
      have e3 : M.counted.has k = false := hh
      rw [e2]
      go_enter Try.func66, Try.ntmps66
      go_wp2_with (first
        | (go_at_call 67; refine (count_any L M _ h hc).mono ?_; rintro e w' ⟨rfl, h1, o1⟩; rw [e1])
        | (go_at_call 51; refine (has_any L M.counted k _ h1).mono ?_; rintro e w' ⟨rfl, rfl⟩; rw [e3]))
      go_ret
      exact ⟨rfl, h1, o1⟩

theorem only_sub {L : Lay} {b : Nat} {w w' : World} (h : Only [b] w w') (hb : b ∈ L.blocks) : Only L.blocks w w' := h.mono (fun k hk => by cases List.mem_singleton.1 hk; exact hb)

theorem store_any (L : Lay) (M : Mem) (k v : Int) (w : World) (h : MemIs w L M) (hc : M.calls < 1000000000) (hk : (Lit.int .i64 k).wf = true) (hv : (Lit.int .u64 v).wf = true) :
    Calls Try.prog 46 #[.pointer (some ⟨L.mb, 0, none⟩), .int .i64 k, .int .u64 v] w fun e w' => e = .returned (.int .i64 (M.errAt k)) ∧ MemIs w' L (M.store k v) ∧ Only L.blocks w w' := by
  rcases errAt_cases M k with he | he | ⟨he, hh⟩
  · have hst : M.store k v = M.counted := by simp [Mem.store, he]
    rw [hst, he]
    go_enter Try.func46, Try.ntmps46
    go_wp2_with (go_at_call 66; refine (countAt_any L M k _ h hc).mono ?_; rintro e w' ⟨rfl, h1, o1⟩; rw [he])
    go_ret
    exact ⟨rfl, h1, only_sub o1 (by simp [Lay.blocks])⟩
  · have hst : M.store k v = M.counted := by simp [Mem.store, he]
    rw [hst, he]
    go_enter Try.func46, Try.ntmps46
    go_wp2_with (go_at_call 66; refine (countAt_any L M k _ h hc).mono ?_; rintro e w' ⟨rfl, h1, o1⟩; rw [he])
    go_ret
    exact ⟨rfl, h1, only_sub o1 (by simp [Lay.blocks])⟩
  · have hst : M.store k v = { M.counted with loose := upd M.loose k (some v) } := by simp [Mem.store, he]
    rw [hst, he]
    go_enter Try.func46, Try.ntmps46
    go_wp2_with (first
      | (go_at_call 66; refine (countAt_any L M k _ h hc).mono ?_; rintro e w1 ⟨rfl, h1, o1⟩; rw [he]; have c1 := h1.c1)
      | (at_mapUpdate; refine wpList_put _ rfl _ _ _ rfl L.lb (8 * M.calls) M.loose k v rfl (h.loose.of_block (o1.block _ h.loose.lt (by simp [h.mb_lb.symm]))) (by unfold maxLen; omega) rfl rfl hk hv ?_; intro w2 hm2 ht2)
      | go_in)
    go_ret
    refine ⟨rfl, h1.newLoose hm2 (by show 8 * M.calls + 1 ≤ 8 * (M.calls + 1); omega) ((Only.refl _ _).turned ht2 (by simp)) ?_, ?_⟩
    · intro j x hj
      by_cases e : j = k
      · subst e; simpa [Mem.has, Mem.counted] using hh
      · rw [upd_other _ _ e] at hj; exact h.looseIn j x hj
    · exact (only_sub o1 (by simp [Lay.blocks])).turned ht2 (by simp [Lay.blocks])

theorem read_any (L : Lay) (M : Mem) (k : Int) (w : World) (h : MemIs w L M) (hk : (Lit.int .i64 k).wf = true) :
    Calls Try.prog 27 #[.pointer (some ⟨L.mb, 0, none⟩), .int .i64 k] w fun e w' => e = .returned (.int .u64 (M.read k)) ∧ w' = w := by
  cases hh : M.has k with
  | false =>
    have hr : M.read k = 0 := by simp [Mem.read, hh]
    rw [hr]
    go_enter Try.func27, Try.ntmps27
    go_wp2_with (go_at_call 51; refine (has_any L M k _ h).mono ?_; rintro e w' ⟨rfl, rfl⟩; rw [hh])
    go_ret
    exact ⟨rfl, rfl⟩
  | true =>
    have hb : 0 ≤ k ∧ k < M.sure.length := by simpa [Mem.has] using hh
    obtain ⟨j, rfl⟩ : ∃ j : Nat, k = j := ⟨k.toNat, by omega⟩
    have hj : j < M.sure.length := by omega
    have e := h.some_of_pos (Nat.zero_lt_of_lt hj)
    have c0 := h.c0
    have c1 := h.c1
    have cs := h.sureCell j hj
    rw [e] at c0
    cases hl : M.loose j with
    | none =>
      have hr : M.read j = M.sure.getD j 0 := by simp [Mem.read, hh, hl]
      rw [hr]
      go_enter Try.func27, Try.ntmps27
      go_wp2_with (first
        | (go_at_call 51; refine (has_any L M j _ h).mono ?_; rintro e w' ⟨rfl, rfl⟩; rw [hh])
        | (at_lookup; refine wpList_look2 _ rfl _ _ rfl L.lb (8 * M.calls) M.loose j 0 false rfl h.loose rfl hk (by rw [hl]; rfl) (by rw [hl]; rfl) ?_)
        | go_in)
      go_ret
      exact ⟨ret_int (by simp [hj]), rfl⟩
    | some v =>
      have hr : M.read j = v := by simp [Mem.read, hh, hl]
      rw [hr]
      go_enter Try.func27, Try.ntmps27
      go_wp2_with (first
        | (go_at_call 51; refine (has_any L M j _ h).mono ?_; rintro e w' ⟨rfl, rfl⟩; rw [hh])
        | (at_lookup; refine wpList_look2 _ rfl _ _ rfl L.lb (8 * M.calls) M.loose j v true rfl h.loose rfl hk (by rw [hl]; rfl) (by rw [hl]; rfl) ?_)
        | go_in)
      go_ret
      exact ⟨rfl, rfl⟩

end Go.Proofs.Ytfalchacdebdpaa
