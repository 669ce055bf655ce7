/- Counting blocks; the document's fresh card; whether a row has a number. -/
import Derived.Test.YtdjnkibnnjobpaaBdL
import Derived.Test.YtdjnkibnnjobpaaCdRefBase
namespace Go.Proofs.Ytdjnkibnnjobpaa
open Go.RowKit Go.Maps Go.ChangeMaps

theorem len_le : ∀ (n : Nat) (a : Int) (l : List Int), l.Nodup → (∀ z ∈ l, a ≤ z ∧ z < a + (n : Int)) → l.length ≤ n := by
  intro n
  induction n with
  | zero =>
    intro a l _ h
    match l with
    | [] => exact Nat.le_refl 0
    | z :: l => have := h z (by simp); omega
  | succ n ih =>
    intro a l hn h
    have := ih a (l.erase (a + (n : Int))) (hn.erase _) fun z hz => by
      have h1 := h z (List.mem_of_mem_erase hz)
      have h2 : z ≠ a + (n : Int) := fun e => by subst e; exact (hn.not_mem_erase) hz
      omega
    have h3 := List.length_erase_le (a := a + (n : Int)) (l := l)
    by_cases e : a + (n : Int) ∈ l
    · rw [List.length_erase_of_mem e] at this; omega
    · rw [List.erase_of_not_mem e] at this; omega
theorem le_len : ∀ (n : Nat) (a : Int) (l : List Int), (∀ z, a ≤ z → z < a + (n : Int) → z ∈ l) → n ≤ l.length := by
  intro n
  induction n with
  | zero => intro a l _; exact Nat.zero_le _
  | succ n ih =>
    intro a l h
    have e : a + (n : Int) ∈ l := h _ (by omega) (by omega)
    have := ih a (l.erase (a + (n : Int))) fun z h1 h2 => (List.mem_erase_of_ne (by omega)).2 (h z h1 (by omega))
    rw [List.length_erase_of_mem e] at this
    have : 0 < l.length := List.length_pos_of_mem e
    omega
theorem refNone_eq (v : Int) (w : World) :
    Calls Try.prog 21 #[.int .u64 v] w fun e w' => e = .returned (.agg #[.int .i64 0, .int .i64 0, .int .i64 0, .int .u64 v, .int .i64 (-1), .int .i64 (-1), .int .i64 (-1), .int .i64 (-1), .int .i64 (-1), .int .i64 (-1)]) ∧ w' = w.alloc (.cells #[.int .i64 0, .int .i64 0, .int .i64 0, .int .u64 v, .int .i64 (-1), .int .i64 (-1), .int .i64 (-1), .int .i64 (-1), .int .i64 (-1), .int .i64 (-1)] 26) := by
  go_enter Try.func21, Try.ntmps21
  go_wp2
  refine bodyPost_ret (v := .agg #[_, _, _, _, _, _, _, _, _, _]) (by simp [results, Try.results21, go_sem]) rfl ⟨rfl, rfl⟩

set_option maxHeartbeats 1000000 in
theorem refFresh_yes (k v : Int) (w : World) (h : k = 1 ∨ k = 2 ∨ k = 3) :
    Calls Try.prog 14 #[.int .i64 k, .int .u64 v] w fun e w' => e = .returned (.tuple #[.agg #[.int .i64 k, .int .i64 1, .int .i64 0, .int .u64 v, .int .i64 (-1), .int .i64 (-1), .int .i64 (-1), .int .i64 (-1), .int .i64 (-1), .int .i64 (-1)], .int .i64 0]) ∧ Below w.heap.size w w' := by
  have HK : Hid (k = 1 ∨ k = 2 ∨ k = 3) := h
  have h1 : ¬ k < 1 := by omega
  have h2 : ¬ k > 3 := by omega
  clear h
  go_enter Try.func14, Try.ntmps14
  go_wp2_with fail
  refine (refNone_eq v _).mono ?_
  rintro e w1 ⟨rfl, rfl⟩
  go_wp2
  refine bodyPost_ret (v := .tuple #[.agg #[_, _, _, _, _, _, _, _, _, _], _]) (by simp [results, Try.results14, go_sem]) rfl ⟨rfl, ?_⟩
  exact ((((Below.refl _ _).alloc (Nat.le_refl _) _).alloc (by simp <;> omega) _).alloc (by simp <;> omega) _)

theorem nFresh_list (S : Vw) (M : Mem) : ∀ (n : Nat) (l : List Int), l.Nodup → (∀ x ∈ l, 0 ≤ x ∧ x < (n : Int)) → (∀ b : Nat, b < n → freshB S M (b : Int) = !decide ((b : Int) ∈ l)) → nFresh S M n + l.length = n := by
  intro n
  induction n with
  | zero =>
    intro l _ h _
    have : l = [] := List.eq_nil_iff_forall_not_mem.2 fun x hx => by have := h x hx; omega
    rw [this]; rfl
  | succ n ih =>
    intro l nd h hf
    unfold nFresh
    rw [hf n (by omega)]
    by_cases e : (n : Int) ∈ l
    · have := ih (l.erase (n : Int)) (nd.erase _) (fun x hx => by
        have h1 := h x (List.mem_of_mem_erase hx)
        have h2 : x ≠ (n : Int) := fun e2 => by subst e2; exact (List.Nodup.not_mem_erase nd) hx
        omega) (fun b hb => by
        rw [hf b (by omega)]
        congr 2
        apply propext
        exact (List.mem_erase_of_ne (by omega)).symm)
      rw [List.length_erase_of_mem e] at this
      have hp : 0 < l.length := List.length_pos_of_mem e
      simp [e]
      omega
    · have := ih l nd (fun x hx => by
        have h1 := h x hx
        have h2 : x ≠ (n : Int) := fun e2 => by subst e2; exact e hx
        omega) (fun b hb => hf b (by omega))
      simp [e]
      omega
/-- A file's blocks, in a list. -/
def ownL (mp : Nat → Int) (mr : Int) : List Int := ((List.range 21).map mp ++ [mr]).filter fun x => decide (0 ≤ x)
theorem ownL_mem {W : Int → Int} {node : Int} {mp : Nat → Int} {mr : Int} (h : Fil W node mp mr) (b : Int) : b ∈ ownL mp mr ↔ (0 ≤ b ∧ b < 96 ∧ W (200 + b) = node + 1) := by
  unfold ownL
  rw [List.mem_filter, List.mem_append, List.mem_map, List.mem_singleton, decide_eq_true_iff]
  constructor
  · rintro ⟨⟨i, hi, rfl⟩ | rfl, h0⟩
    · have hi' := List.mem_range.1 hi
      exact ⟨h0, (h.rng i hi').2, h.own i hi' (by omega)⟩
    · exact ⟨h0, h.mrng.2, (h.mown (by omega)).1⟩
  · rintro ⟨h0, h1, h2⟩
    refine ⟨?_, h0⟩
    rcases h.all b h0 h1 h2 with e | ⟨i, hi, e⟩
    · exact .inr e
    · exact .inl ⟨i, List.mem_range.2 hi, e⟩
theorem ownL_nodup {W : Int → Int} {node : Int} {mp : Nat → Int} {mr : Int} (h : Fil W node mp mr) : (ownL mp mr).Nodup := by
  unfold ownL
  rw [List.filter_append, List.nodup_append]
  refine ⟨?_, ?_, ?_⟩
  · have key : ∀ k, k ≤ 21 → (((List.range k).map mp).filter fun x => decide (0 ≤ x)).Nodup := by
      intro k
      induction k with
      | zero => intro _; exact List.nodup_nil
      | succ k ih =>
        intro hk
        rw [List.range_succ, List.map_append, List.filter_append, List.nodup_append]
        refine ⟨ih (by omega), ?_, ?_⟩
        · by_cases e : 0 ≤ mp k
          · simp [e]
          · simp [e]
        · intro x hx y hy e
          subst e
          obtain ⟨h1, h2⟩ := List.mem_filter.1 hx
          obtain ⟨i, hi, rfl⟩ := List.mem_map.1 h1
          have hi' := List.mem_range.1 hi
          obtain ⟨h3, _⟩ := List.mem_filter.1 hy
          simp at h3 h2
          have := h.inj i k (by omega) (by omega) h3 (by omega)
          omega
    exact key 21 (Nat.le_refl _)
  · by_cases e : 0 ≤ mr
    · simp [e]
    · simp [e]
  · intro x hx y hy e
    subst e
    obtain ⟨h1, h2⟩ := List.mem_filter.1 hx
    obtain ⟨i, hi, rfl⟩ := List.mem_map.1 h1
    obtain ⟨h3, _⟩ := List.mem_filter.1 hy
    simp at h3 h2
    have := (h.mown (by omega)).2 i (List.mem_range.1 hi)
    exact this h3

/-- A new file. -/
theorem newfile {W : Int → Int} {node : Int} (hW : ∀ b, 0 ≤ b → b < 96 → W (200 + b) ≠ node + 1) : FileIs W node (-1) (-1) (-1) (-1) (-1) (-1) := by
  have hm : ∀ i, mapF W (-1) (-1) (-1) (-1) (-1) (-1) i = -1 := fun i => by
    unfold mapF
    by_cases h : i < 5
    · rw [if_pos h]
      unfold dirF
      match i, h with
      | 0, _ => rfl
      | 1, _ => rfl
      | 2, _ => rfl
      | 3, _ => rfl
      | 4, _ => rfl
    · rw [if_neg h, if_pos rfl]
  refine ⟨⟨fun i _ => by rw [hm]; omega, fun i j _ _ _ hx => absurd (hm i) hx, fun i _ hx => absurd (hm i) hx, by omega, fun hx => absurd rfl hx, fun b b0 b1 hb => absurd hb (hW b b0 b1)⟩, fun hx => absurd rfl hx⟩
theorem newmap (W : Int → Int) (i : Nat) : mapF W (-1) (-1) (-1) (-1) (-1) (-1) i = -1 := by
  unfold mapF
  by_cases h : i < 5
  · rw [if_pos h]
    unfold dirF
    match i, h with
    | 0, _ => rfl
    | 1, _ => rfl
    | 2, _ => rfl
    | 3, _ => rfl
    | 4, _ => rfl
  · rw [if_neg h, if_pos rfl]

end Go.Proofs.Ytdjnkibnnjobpaa
