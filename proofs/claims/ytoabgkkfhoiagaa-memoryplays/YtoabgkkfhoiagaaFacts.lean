/- Plain facts on memories: what a crash, an evict, a fence make of the words. -/
import Derived.Test.YtoabgkkfhoiagaaSame
namespace Go.Proofs.Ytoabgkkfhoiagaa

theorem read_of (M : Mem) (i : Nat) (hi : i < M.sure.length) : M.read i = (M.loose i).getD (M.sure.getD i 0) := by
  unfold Mem.read
  have : M.has i = true := by simp [Mem.has, hi]
  rw [if_pos this]; simp

theorem image_eq (M M' : Mem) (hl : M.sure.length = M'.sure.length) (h : ∀ i : Nat, i < M.sure.length → M.read i = M'.read i) : M.image = M'.image := by
  unfold Mem.image
  rw [← hl]
  exact List.map_congr_left fun i hi => h i (List.mem_range.1 hi)

theorem image_none (M : Mem) (h : ∀ k, M.loose k = none) : M.image = M.sure := by
  apply List.ext_getElem (by simp [Mem.image])
  intro i h1 h2
  have := read_of M i h2
  rw [h] at this
  simp only [Mem.image, List.getElem_map, List.getElem_range]
  rw [this]; simp [h2]

theorem keys_none (M : Mem) (h : ∀ k, M.loose k = none) : M.keys = [] := by
  unfold Mem.keys
  rw [List.filter_eq_nil_iff.2]
  · rfl
  · intro a _; simp [h]

theorem keys_congr (M M' : Mem) (hl : M.sure.length = M'.sure.length) (h : ∀ k, M.loose k = M'.loose k) : M.keys = M'.keys := by
  unfold Mem.keys
  rw [hl]
  congr 1
  exact List.filter_congr fun i _ => by rw [h]

theorem crash_image (M : Mem) (ks : List Bool) : (M.crash ks).image = crashTo M ks M.keys.length := image_none _ fun _ => rfl

theorem crashTo_nil (M : Mem) (t : Nat) : crashTo M [] t = M.sure := by
  induction t with
  | zero => rfl
  | succ t ih => unfold crashTo; rw [if_neg (by simp [kept])]; exact ih

/-- A crash leaves each word as it was sure, or as it was stored last. -/
theorem crashTo_or (M : Mem) (ks : List Bool) (hin : ∀ k v, M.loose k = some v → 0 ≤ k ∧ k < M.sure.length) (t : Nat) (ht : t ≤ M.keys.length) (i : Nat) (hi : i < M.sure.length) :
    (crashTo M ks t).getD i 0 = M.sure.getD i 0 ∨ (crashTo M ks t).getD i 0 = (M.loose i).getD (M.sure.getD i 0) := by
  induction t with
  | zero => left; rfl
  | succ t ih =>
    unfold crashTo
    split
    · have hmem : M.keys.getD t 0 ∈ M.keys := by simp [show t < M.keys.length by omega]
      obtain ⟨v, hv⟩ := Option.isSome_iff_exists.1 ((mem_keys M hin _).1 hmem)
      have hr := hin _ v hv
      obtain ⟨j, hj⟩ : ∃ j : Nat, M.keys.getD t 0 = j := ⟨(M.keys.getD t 0).toNat, by omega⟩
      rw [hj] at hv ⊢
      by_cases e : j = i
      · subst e
        right
        rw [hv]
        simp [List.getD, crashTo_len, hi]
      · have : ((crashTo M ks t).set (j : Int).toNat ((M.loose (j : Int)).getD 0)).getD i 0 = (crashTo M ks t).getD i 0 := by
          simp [List.getD, e]
        rw [this]; exact ih (by omega)
    · exact ih (by omega)

/-- A crash that keeps all leaves each word as it reads. -/
theorem crashTo_all (M : Mem) (hin : ∀ k v, M.loose k = some v → 0 ≤ k ∧ k < M.sure.length) (t : Nat) (ht : t ≤ M.keys.length) (i : Nat) (hi : i < M.sure.length) :
    (crashTo M [true] t).getD i 0 = if (i : Int) ∈ M.keys.take t then (M.loose i).getD 0 else M.sure.getD i 0 := by
  induction t with
  | zero => simp [crashTo]
  | succ t ih =>
    have hlt : t < M.keys.length := by omega
    have hk : kept [true] t = true := by simp [kept, Nat.mod_one]
    unfold crashTo
    rw [if_pos hk]
    have hmem : M.keys.getD t 0 ∈ M.keys := by simp [hlt]
    obtain ⟨v, hv⟩ := Option.isSome_iff_exists.1 ((mem_keys M hin _).1 hmem)
    have hr := hin _ v hv
    obtain ⟨j, hj⟩ : ∃ j : Nat, M.keys.getD t 0 = j := ⟨(M.keys.getD t 0).toNat, by omega⟩
    have htake : M.keys.take (t + 1) = M.keys.take t ++ [(j : Int)] := by
      rw [List.take_succ_eq_append_getElem hlt]
      congr 2
      rw [← hj]; simp [hlt]
    rw [htake, hj]
    by_cases e : j = i
    · subst e
      rw [if_pos (by simp)]
      simp [List.getD, crashTo_len, hi]
    · have h1 : ((crashTo M [true] t).set (j : Int).toNat ((M.loose (j : Int)).getD 0)).getD i 0 = (crashTo M [true] t).getD i 0 := by
        simp [List.getD, e]
      have h2 : ((i : Int) ∈ M.keys.take t ++ [(j : Int)]) ↔ ((i : Int) ∈ M.keys.take t) := by
        rw [List.mem_append, List.mem_singleton]
        constructor
        · rintro (h | h)
          · exact h
          · omega
        · exact .inl
      rw [h1, ih (by omega)]
      simp only [h2]

theorem crash_all (M : Mem) (hin : ∀ k v, M.loose k = some v → 0 ≤ k ∧ k < M.sure.length) : (M.crash [true]).image = M.image := by
  rw [crash_image]
  apply getD_eq (by rw [crashTo_len]; simp [Mem.image])
  intro i hi
  rw [crashTo_len] at hi
  rw [crashTo_all M hin _ (Nat.le_refl _) i hi, List.take_length]
  have him : M.image.getD i 0 = M.read i := by simp [Mem.image, hi]
  rw [him, read_of M i hi]
  cases hl : M.loose i with
  | none =>
    rw [if_neg]
    · rfl
    · rw [mem_keys M hin, hl]; simp
  | some v =>
    rw [if_pos]
    · rfl
    · rw [mem_keys M hin, hl]; rfl

theorem evict_loose (M : Mem) (k j : Int) : (M.evict k).loose j = if j = k then none else M.loose j := by
  unfold Mem.evict
  split
  · rename_i h
    by_cases e : j = k
    · subst e; simp [h]
    · simp [e]
  · rfl
theorem evict_len (M : Mem) (k : Int) : (M.evict k).sure.length = M.sure.length := by
  unfold Mem.evict; split <;> simp
theorem evict_calls (M : Mem) (k : Int) : (M.evict k).calls = M.calls := by
  unfold Mem.evict; split <;> rfl
theorem evict_image (M : Mem) (hin : ∀ k v, M.loose k = some v → 0 ≤ k ∧ k < M.sure.length) (k : Int) : (M.evict k).image = M.image := by
  apply image_eq _ _ (evict_len M k)
  intro i hi
  rw [read_of _ i hi]
  rw [evict_len] at hi
  rw [read_of M i hi, evict_loose]
  cases hl : M.loose k with
  | none =>
    have e : M.evict k = M := by simp [Mem.evict, hl]
    rw [e]
    by_cases e2 : (i : Int) = k
    · rw [if_pos e2, e2, hl]
    · rw [if_neg e2]
  | some v =>
    have hr := hin k v hl
    have e : (M.evict k).sure = M.sure.set k.toNat v := by simp [Mem.evict, hl]
    rw [e]
    by_cases e2 : (i : Int) = k
    · rw [if_pos e2, e2, hl]
      have : k.toNat = i := by omega
      rw [this]; simp [List.getD, hi]
    · rw [if_neg e2]
      have : k.toNat ≠ i := by omega
      simp [List.getD, this]

/-- The memory when the first i of the loose words have been evicted. -/
def evicted (M : Mem) (l : List Int) : Mem := l.foldl Mem.evict M
theorem evicted_snoc (M : Mem) (l : List Int) (k : Int) : evicted M (l ++ [k]) = (evicted M l).evict k := by simp [evicted, List.foldl_append]
theorem evicted_loose (M : Mem) (l : List Int) (j : Int) : (evicted M l).loose j = if j ∈ l then none else M.loose j := by
  unfold evicted
  induction l generalizing M with
  | nil => simp
  | cons k l ih =>
    rw [List.foldl_cons, ih, evict_loose]
    by_cases e : j ∈ l
    · simp [e]
    · by_cases e2 : j = k
      · simp [e2]
      · simp [e, e2]
theorem evicted_len (M : Mem) (l : List Int) : (evicted M l).sure.length = M.sure.length := by
  unfold evicted
  induction l generalizing M with
  | nil => rfl
  | cons k l ih => rw [List.foldl_cons, ih, evict_len]
theorem evicted_calls (M : Mem) (l : List Int) : (evicted M l).calls = M.calls := by
  unfold evicted
  induction l generalizing M with
  | nil => rfl
  | cons k l ih => rw [List.foldl_cons, ih, evict_calls]
theorem evicted_image (M : Mem) (hin : ∀ k v, M.loose k = some v → 0 ≤ k ∧ k < M.sure.length) (l : List Int) : (evicted M l).image = M.image := by
  unfold evicted
  induction l generalizing M with
  | nil => rfl
  | cons k l ih =>
    rw [List.foldl_cons, ih, evict_image M hin]
    intro j v hj
    rw [evict_loose] at hj
    rw [evict_len]
    split at hj
    · cases hj
    · exact hin j v hj

theorem RowIs.only2 {q : IntKind} {w w' : World} {a : Option Addr} {xs : List Int} {S : List Nat} (h : RowIs q w a xs) (ho : Only S w w') (ha : xs.length = 0 ∨ ∃ g, a = some ⟨g, 0, none⟩ ∧ g ∉ S) : RowIs q w' a xs := by
  rcases ha with h0 | ⟨g, rfl, hg⟩
  · exact .inl (List.length_eq_zero_iff.1 h0)
  · exact h.only ho (fun x hx hm => by cases hx; exact hg hm)

/-- The script's step k, in whatever world in which what was there is as it was. -/
theorem OpsAt.at {w : World} {a : Option Addr} {cap : Nat} {sc : List Step} (h : OpsAt w a cap sc) (k : Nat) (hlt : k < sc.length) :
    ∃ b off kv, a = some ⟨b, off, none⟩ ∧ KeepAt w kv (sc.getD k noStep).keep ∧ (sc.getD k noStep).Ok ∧
      ∀ W : World, Go.RowKit.Below w.heap.size w W → W.cell? ⟨b, off + k * 4, none⟩ = some (.int .i64 (sc.getD k noStep).kind) ∧ W.cell? ⟨b, off + k * 4 + 1, none⟩ = some (.int .i64 (sc.getD k noStep).at_) ∧ W.cell? ⟨b, off + k * 4 + 2, none⟩ = some (.int .u64 (sc.getD k noStep).v) ∧ W.cell? ⟨b, off + k * 4 + 3, none⟩ = some kv := by
  rcases h.2.2 with ⟨_, e, _⟩ | ⟨x, rfl, e | ⟨b, off, rfl, hbl, hs⟩⟩
  · rw [e] at hlt; exact absurd hlt (Nat.not_lt_zero _)
  · rw [e] at hlt; exact absurd hlt (Nat.not_lt_zero _)
  · obtain ⟨kv, s0, s1, s2, s3, hk, ho⟩ := hs k hlt
    exact ⟨b, off, kv, rfl, hk, ho, fun W hW => ⟨(hW.cell (p := ⟨b, off + k * 4, none⟩) hbl).trans s0, (hW.cell (p := ⟨b, off + k * 4 + 1, none⟩) hbl).trans s1, (hW.cell (p := ⟨b, off + k * 4 + 2, none⟩) hbl).trans s2, (hW.cell (p := ⟨b, off + k * 4 + 3, none⟩) hbl).trans s3⟩⟩

theorem done_keeps (M : Mem) (o : Step) (h : o.k ≤ 3) : (M.done o).calls ≤ M.calls + 1 ∧ (M.done o).sure.length = M.sure.length ∧ (M.done o).stops = M.stops ∧ (M.done o).stopAt = M.stopAt := by
  rcases o.k_cases with hk | hk | hk | hk | hk | hk
  · rw [(step0 M o hk).2]; unfold Mem.store; split <;> simp [Mem.counted]
  · rw [(step1 M o hk).2]; unfold Mem.flush; split <;> simp [Mem.counted]
  · rw [(step2 M o hk).2]; unfold Mem.fence; split <;> simp [Mem.counted, fenceTo, sureTo]
  · rw [(step3 M o hk).2]; unfold Mem.evict; split <;> simp
  all_goals omega

end Go.Proofs.Ytoabgkkfhoiagaa
