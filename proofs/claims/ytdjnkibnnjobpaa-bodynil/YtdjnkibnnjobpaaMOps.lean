/- Contracts of the memory's calls that only read: how many words, is there a place, the word. -/
import Derived.Test.YtdjnkibnnjobpaaMem
import Derived.BigQuiet
namespace Go.Proofs.Ytdjnkibnnjobpaa
open Go.RowKit Go.Maps Go.ChangeMaps

theorem ret_int {k : IntKind} {a b : Int} (h : a = b) : Ending.returned (.int k a) = .returned (.int k b) := by rw [h]

theorem ret_bool {a b : Bool} (h : a = b) : Ending.returned (.bool a) = .returned (.bool b) := by rw [h]

theorem size_any (L : Lay) (M : Mem) (w : World) (h : MemIs w L M) :
    Calls Try.prog 24 #[.pointer (some ⟨L.mb, 0, none⟩)] w fun e w' => e = .returned (.int .i64 M.sure.length) ∧ w' = w := by
  have c0 := h.c0
  clear h
  go_enter Try.func24, Try.ntmps24
  go_wp2
  go_ret
  exact ⟨rfl, rfl⟩

theorem has_any (L : Lay) (M : Mem) (k : Int) (w : World) (h : MemIs w L M) :
    Calls Try.prog 69 #[.pointer (some ⟨L.mb, 0, none⟩), .int .i64 k] w fun e w' => e = .returned (.bool (M.has k)) ∧ w' = w := by
  have hs := size_any L M
  by_cases h0 : 0 ≤ k
  · go_enter Try.func69, Try.ntmps69
    go_wp2_with (go_at_call 24; refine (hs _ h).mono ?_; rintro e w' ⟨rfl, rfl⟩)
    all_goals
      go_ret
      exact ⟨ret_bool (by simp [Mem.has, *]), rfl⟩
  · go_enter Try.func69, Try.ntmps69
    go_wp2
    go_ret
    exact ⟨ret_bool (by simp [Mem.has]; omega), rfl⟩

theorem only_sub {L : Lay} {b : Nat} {w w' : World} (h : Only [b] w w') (hb : b ∈ L.blocks) : Only L.blocks w w' := h.mono (fun k hk => by cases List.mem_singleton.1 hk; exact hb)

theorem read_any (L : Lay) (M : Mem) (k : Int) (w : World) (h : MemIs w L M) (hk : (Lit.int .i64 k).wf = true) :
    Calls Try.prog 56 #[.pointer (some ⟨L.mb, 0, none⟩), .int .i64 k] w fun e w' => e = .returned (.int .u64 (M.read k)) ∧ w' = w := by
  cases hh : M.has k with
  | false =>
    have hr : M.read k = 0 := by simp [Mem.read, hh]
    rw [hr]
    go_enter Try.func56, Try.ntmps56
    go_wp2_with (go_at_call 69; refine (has_any L M k _ h).mono ?_; rintro e w' ⟨rfl, rfl⟩; rw [hh])
    go_ret
    exact ⟨rfl, rfl⟩
  | true =>
    have hb : 0 ≤ k ∧ k < M.sure.length := by simpa [Mem.has] using hh
    obtain ⟨j, rfl⟩ : ∃ j : Nat, k = j := ⟨k.toNat, by omega⟩
    have hj : j < M.sure.length := by omega
    have e := h.some_of_pos (Nat.zero_lt_of_lt hj)
    have c0 := h.c0
    have c1 := h.c1
    have cs := h.sureCell j hj
    rw [e] at c0
    cases hl : M.loose j with
    | none =>
      have hr : M.read j = M.sure.getD j 0 := by simp [Mem.read, hh, hl]
      rw [hr]
      go_enter Try.func56, Try.ntmps56
      go_wp2_with (first
        | (go_at_call 69; refine (has_any L M j _ h).mono ?_; rintro e w' ⟨rfl, rfl⟩; rw [hh])
        | (at_lookup; refine wpList_look2 _ rfl _ _ rfl L.lb (8 * M.calls) M.loose j 0 false rfl h.loose rfl hk (by rw [hl]; rfl) (by rw [hl]; rfl) ?_)
        | go_in)
      go_ret
      exact ⟨ret_int (by simp [hj]), rfl⟩
    | some v =>
      have hr : M.read j = v := by simp [Mem.read, hh, hl]
      rw [hr]
      go_enter Try.func56, Try.ntmps56
      go_wp2_with (first
        | (go_at_call 69; refine (has_any L M j _ h).mono ?_; rintro e w' ⟨rfl, rfl⟩; rw [hh])
        | (at_lookup; refine wpList_look2 _ rfl _ _ rfl L.lb (8 * M.calls) M.loose j v true rfl h.loose rfl hk (by rw [hl]; rfl) (by rw [hl]; rfl) ?_)
        | go_in)
      go_ret
      exact ⟨rfl, rfl⟩

theorem MemIs.all_lt {w : World} {L : Lay} {M : Mem} (h : MemIs w L M) : ∀ k ∈ L.blocks, k < w.heap.size := by
  have hs : L.sb < w.heap.size := by
    rcases h.place with ⟨_, e⟩ | e
    · rw [e]; exact h.lt
    · obtain ⟨cur, hb⟩ := h.rowAt e
      exact (Array.getElem?_eq_some_iff.1 hb).1
  have h1 := h.lt
  have h2 := h.loose.lt
  have h3 := h.way.lt
  intro k hk
  simp only [Lay.blocks, List.mem_cons, List.not_mem_nil, or_false] at hk
  rcases hk with rfl | rfl | rfl | rfl <;> assumption

theorem add_none (b o j : Nat) : (⟨b, o, none⟩ : Addr).add j = ⟨b, o + j, none⟩ := by unfold Addr.add; by_cases e : j = 0 <;> simp [e]

theorem ownsRow_form0 {w : World} {base e n : Nat} {v : Value} {xs : List Value} (h : w.ownsRow base e 1 v n xs) : ∃ a c, v = .slice a n c ∧ (n = 0 ∨ ∃ g, a = some ⟨g, 0, none⟩ ∧ base ≤ g) := by
  rcases h.2 with ⟨rfl, rfl⟩ | ⟨g, cap, cur, rfl, hb, _⟩
  · exact ⟨none, 0, rfl, .inl rfl⟩
  · exact ⟨_, cap, rfl, .inr ⟨g, rfl, hb⟩⟩

end Go.Proofs.Ytdjnkibnnjobpaa
