/- Lists of float64 in memory, as plain lists of bits; contracts of the functions that only read them: first, Least, Greatest, Rank and the document's. -/
import Derived.Test.YtnebmbabfghlaaaDoorBase
namespace Go.Proofs.YtnebmbabfghlaaaDoor
open Go.RowKit

/-- The i-th number of a list. -/
def nth (xs : List Nat) (i : Nat) : Nat := xs.getD i 0
/-- Floats at a slice's address: at most 100. -/
def FAt (w : World) (a : Option Addr) (xs : List Nat) : Prop :=
  xs.length ≤ 100 ∧ (∀ x ∈ xs, x < 18446744073709551616) ∧ (xs = [] ∨ ∃ b o, a = some ⟨b, o, none⟩ ∧ b < w.heap.size ∧ ∀ i, i < xs.length → w.cell? ⟨b, o + i, none⟩ = some (.float .f64 (nth xs i)))

theorem FAt.below {w w' : World} {a : Option Addr} {xs : List Nat} (h : FAt w a xs) {n : Nat} (hb : Below n w w') (hn : w.heap.size ≤ n) : FAt w' a xs := by
  obtain ⟨h1, h2, h3⟩ := h
  refine ⟨h1, h2, ?_⟩
  rcases h3 with h3 | ⟨b, o, e, hlt, hc⟩
  · exact .inl h3
  · exact .inr ⟨b, o, e, by have := hb.size; omega, fun i hi => (hb.cell (p := ⟨b, o + i, none⟩) (by show b < n; omega)).trans (hc i hi)⟩
theorem FAt.nth_lt {w : World} {a : Option Addr} {xs : List Nat} (h : FAt w a xs) (i : Nat) : nth xs i < 18446744073709551616 := by
  unfold nth
  by_cases hi : i < xs.length
  · have : xs.getD i 0 = xs[i] := by simp [List.getD, hi]
    rw [this]; exact h.2.1 _ (List.getElem_mem hi)
  · have : xs.getD i 0 = 0 := by simp [List.getD, hi]
    rw [this]; omega

def best (f : Nat → Nat → Bool) : List Nat → Nat
  | [] => 0
  | x :: r => r.foldl (fun b y => if f y b then y else b) x

theorem best_snoc (f : Nat → Nat → Bool) (xs : List Nat) (h : xs ≠ []) (y : Nat) : best f (xs ++ [y]) = if f y (best f xs) then y else best f xs := by
  cases xs with
  | nil => exact absurd rfl h
  | cons x r => simp only [best, List.cons_append, List.foldl_append, List.foldl_cons, List.foldl_nil]; rfl
theorem take_snoc (xs : List Nat) (k : Nat) (h : k < xs.length) : xs.take (k + 1) = xs.take k ++ [nth xs k] := by
  rw [List.take_succ_eq_append_getElem h]; simp [nth, List.getD, h]
theorem best_step (f : Nat → Nat → Bool) (xs : List Nat) (k : Nat) (h : k + 1 < xs.length) : best f (xs.take (k + 2)) = if f (nth xs (k + 1)) (best f (xs.take (k + 1))) then nth xs (k + 1) else best f (xs.take (k + 1)) := by
  rw [take_snoc xs (k + 1) h]
  exact best_snoc f _ (by intro e; have := congrArg List.length e; rw [List.length_take, List.length_nil] at this; omega) _
theorem best_one (f : Nat → Nat → Bool) (xs : List Nat) (h : 0 < xs.length) : best f (xs.take (0 + 1)) = nth xs 0 := by
  cases xs with
  | nil => simp at h
  | cons x r => rfl
theorem best_all (f : Nat → Nat → Bool) (xs : List Nat) (k : Nat) (h : ¬ k < xs.length) : best f (xs.take k) = best f xs := by rw [List.take_of_length_le (by omega)]

def someB (xs : List Nat) : Bool := decide (0 < xs.length)

set_option maxHeartbeats 1000000 in
theorem first43 (f : Nat → Nat → Bool) (hf : f = ah)
   (a : Option Addr) (cap : Nat) (xs : List Nat) (w : World) (h : FAt w a xs) (hcap : xs.length ≤ cap) (hc2 : cap ≤ 140737488351232) :
    Calls Tryd.prog 42 #[.slice a xs.length cap, .func (.func 43) #[] #[]] w fun e w' => e = .returned (.tuple #[.float .f64 (best f xs), .bool (someB xs)]) ∧ w' = w := by
  have HF : Hid (f = ah) := hf
  clear hf
  obtain ⟨hl, _, hc⟩ := h
  by_cases hpos : 0 < xs.length
  · have hemp : someB xs = true := by simp [someB, hpos]
    obtain ⟨b, o, rfl, hb, hcell⟩ := hc.resolve_left (by intro e; subst e; simp at hpos)
    have HC : Hid (∀ i, i < xs.length → w.cell? ⟨b, o + i, none⟩ = some (.float .f64 (nth xs i))) := hcell
    have c0 : w.cell? ⟨b, o, none⟩ = some (.float .f64 (nth xs 0)) := hcell 0 hpos
    rw [hemp]
    generalize hn : xs.length = n at *
    have HN : Hid (xs.length = n) := hn
    have H1 : Hid (best f (xs.take (0 + 1)) = nth xs 0) := best_one f xs (by omega)
    clear hcell hn hc hemp
    by_cases hc1 : cap = 1
    · subst hc1
      obtain rfl : n = 1 := by omega
      have H2 := Hid.out H1
      have H3 : best f xs = nth xs 0 := by rw [← H2]; exact (best_all f xs _ (by rw [HN.out]; omega)).symm
      rw [H3]
      clear H3 H2 H1
      go_enter Tryd.func42, Tryd.ntmps42
      go_wp2
      go_loop [6, 18] (fun bst i => i = .int .i64 0 ∧ bst = .float .f64 (nth xs 0)) (fun _ _ => 0)
      case atStart => exact ⟨rfl, rfl⟩
      case round =>
        obtain ⟨rfl, rfl⟩ := hrel
        go_wp2
        go_ret2
        exact ⟨rfl, rfl⟩
    · have hz : ((n : Int) == 0) = false := by simp; omega
      go_enter Tryd.func42, Tryd.ntmps42
      go_wp2
      go_loop [6, 8, 18] (fun bst _ i => ∃ k : Nat, k + 1 ≤ n ∧ i = .int .i64 k ∧ bst = .float .f64 (best f (xs.take (k + 1)))) (fun _ _ i => n - (intOf i).toNat)
      case atStart => exact ⟨0, by omega, rfl, by rw [H1.out]⟩
      case round =>
        obtain ⟨k, hk, rfl, rfl⟩ := hrel
        by_cases hlt : k + 1 < n
        · have ck : w.cell? ⟨b, o + 1 + k, none⟩ = some (.float .f64 (nth xs (k + 1))) := by
            have := HC.out (k + 1) (by omega)
            rw [← this]; congr 2; omega
          have HS : Hid (best f (xs.take (k + 2)) = if f (nth xs (k + 1)) (best f (xs.take (k + 1))) then nth xs (k + 1) else best f (xs.take (k + 1))) := best_step f xs k (by rw [HN.out]; exact hlt)
          go_wp2_with fail
          refine Calls.mono (ahead_any _ _ _) ?_
          rintro e w' ⟨rfl, rfl⟩
          have hfe : ah (nth xs (k + 1)) (best f (xs.take (k + 1))) = f (nth xs (k + 1)) (best f (xs.take (k + 1))) := by rw [HF.out]
          rw [hfe]
          cases hff : f (nth xs (k + 1)) (best f (xs.take (k + 1))) with
          | true =>
            rw [hff] at HS
            go_wp2
            go_round
            case rel => exact ⟨k + 1, by omega, by go_num, by rw [HS.out]; rfl⟩
            case measure => simp [intOf]; omega
          | false =>
            rw [hff] at HS
            go_wp2
            go_round
            case rel => exact ⟨k + 1, by omega, by go_num, by rw [HS.out]; rfl⟩
            case measure => simp [intOf]; omega
        · have HA : Hid (best f (xs.take (k + 1)) = best f xs) := best_all f xs _ (by rw [HN.out]; omega)
          go_wp2
          go_ret2
          exact ⟨by rw [← HA.out]; rfl, rfl⟩
  · have e : xs = [] := by cases xs with
      | nil => rfl
      | cons => simp at hpos
    subst e
    clear hc
    go_enter Tryd.func42, Tryd.ntmps42
    go_wp2
    go_ret2
    exact ⟨rfl, rfl⟩

set_option maxHeartbeats 1000000 in
theorem first44 (f : Nat → Nat → Bool) (hf : f = fun x y => ah y x)
   (a : Option Addr) (cap : Nat) (xs : List Nat) (w : World) (h : FAt w a xs) (hcap : xs.length ≤ cap) (hc2 : cap ≤ 140737488351232) :
    Calls Tryd.prog 42 #[.slice a xs.length cap, .func (.func 44) #[] #[]] w fun e w' => e = .returned (.tuple #[.float .f64 (best f xs), .bool (someB xs)]) ∧ w' = w := by
  have HF : Hid (f = fun x y => ah y x) := hf
  clear hf
  obtain ⟨hl, _, hc⟩ := h
  by_cases hpos : 0 < xs.length
  · have hemp : someB xs = true := by simp [someB, hpos]
    obtain ⟨b, o, rfl, hb, hcell⟩ := hc.resolve_left (by intro e; subst e; simp at hpos)
    have HC : Hid (∀ i, i < xs.length → w.cell? ⟨b, o + i, none⟩ = some (.float .f64 (nth xs i))) := hcell
    have c0 : w.cell? ⟨b, o, none⟩ = some (.float .f64 (nth xs 0)) := hcell 0 hpos
    rw [hemp]
    generalize hn : xs.length = n at *
    have HN : Hid (xs.length = n) := hn
    have H1 : Hid (best f (xs.take (0 + 1)) = nth xs 0) := best_one f xs (by omega)
    clear hcell hn hc hemp
    by_cases hc1 : cap = 1
    · subst hc1
      obtain rfl : n = 1 := by omega
      have H2 := Hid.out H1
      have H3 : best f xs = nth xs 0 := by rw [← H2]; exact (best_all f xs _ (by rw [HN.out]; omega)).symm
      rw [H3]
      clear H3 H2 H1
      go_enter Tryd.func42, Tryd.ntmps42
      go_wp2
      go_loop [6, 18] (fun bst i => i = .int .i64 0 ∧ bst = .float .f64 (nth xs 0)) (fun _ _ => 0)
      case atStart => exact ⟨rfl, rfl⟩
      case round =>
        obtain ⟨rfl, rfl⟩ := hrel
        go_wp2
        go_ret2
        exact ⟨rfl, rfl⟩
    · have hz : ((n : Int) == 0) = false := by simp; omega
      go_enter Tryd.func42, Tryd.ntmps42
      go_wp2
      go_loop [6, 8, 18] (fun bst _ i => ∃ k : Nat, k + 1 ≤ n ∧ i = .int .i64 k ∧ bst = .float .f64 (best f (xs.take (k + 1)))) (fun _ _ i => n - (intOf i).toNat)
      case atStart => exact ⟨0, by omega, rfl, by rw [H1.out]⟩
      case round =>
        obtain ⟨k, hk, rfl, rfl⟩ := hrel
        by_cases hlt : k + 1 < n
        · have ck : w.cell? ⟨b, o + 1 + k, none⟩ = some (.float .f64 (nth xs (k + 1))) := by
            have := HC.out (k + 1) (by omega)
            rw [← this]; congr 2; omega
          have HS : Hid (best f (xs.take (k + 2)) = if f (nth xs (k + 1)) (best f (xs.take (k + 1))) then nth xs (k + 1) else best f (xs.take (k + 1))) := best_step f xs k (by rw [HN.out]; exact hlt)
          go_wp2_with fail
          refine Calls.mono (greatest1_any _ _ _) ?_
          rintro e w' ⟨rfl, rfl⟩
          have hfe : ah (best f (xs.take (k + 1))) (nth xs (k + 1)) = f (nth xs (k + 1)) (best f (xs.take (k + 1))) := by rw [HF.out]
          rw [hfe]
          cases hff : f (nth xs (k + 1)) (best f (xs.take (k + 1))) with
          | true =>
            rw [hff] at HS
            go_wp2
            go_round
            case rel => exact ⟨k + 1, by omega, by go_num, by rw [HS.out]; rfl⟩
            case measure => simp [intOf]; omega
          | false =>
            rw [hff] at HS
            go_wp2
            go_round
            case rel => exact ⟨k + 1, by omega, by go_num, by rw [HS.out]; rfl⟩
            case measure => simp [intOf]; omega
        · have HA : Hid (best f (xs.take (k + 1)) = best f xs) := best_all f xs _ (by rw [HN.out]; omega)
          go_wp2
          go_ret2
          exact ⟨by rw [← HA.out]; rfl, rfl⟩
  · have e : xs = [] := by cases xs with
      | nil => rfl
      | cons => simp at hpos
    subst e
    clear hc
    go_enter Tryd.func42, Tryd.ntmps42
    go_wp2
    go_ret2
    exact ⟨rfl, rfl⟩

/-- The least, the greatest: the first that none beats. -/
def leastF (xs : List Nat) : Nat := best ah xs
def greatestF (xs : List Nat) : Nat := best (fun x y => ah y x) xs
theorem least_any (a : Option Addr) (cap : Nat) (xs : List Nat) (w : World) (h : FAt w a xs) (hcap : xs.length ≤ cap) (hc2 : cap ≤ 140737488351232) :
    Calls Tryd.prog 11 #[.slice a xs.length cap] w fun e w' => e = .returned (.tuple #[.float .f64 (leastF xs), .bool (someB xs)]) ∧ w' = w := by
  have H : Hid (FAt w a xs) := h
  clear h
  go_enter Tryd.func11, Tryd.ntmps11
  go_wp2_with fail
  refine (first43 _ rfl a cap xs _ H.out hcap hc2).mono ?_
  rintro e w' ⟨rfl, rfl⟩
  go_wp2
  go_ret2
  exact ⟨rfl, rfl⟩
theorem greatest_any (a : Option Addr) (cap : Nat) (xs : List Nat) (w : World) (h : FAt w a xs) (hcap : xs.length ≤ cap) (hc2 : cap ≤ 140737488351232) :
    Calls Tryd.prog 13 #[.slice a xs.length cap] w fun e w' => e = .returned (.tuple #[.float .f64 (greatestF xs), .bool (someB xs)]) ∧ w' = w := by
  have H : Hid (FAt w a xs) := h
  clear h
  go_enter Tryd.func13, Tryd.ntmps13
  go_wp2_with fail
  refine (first44 _ rfl a cap xs _ H.out hcap hc2).mono ?_
  rintro e w' ⟨rfl, rfl⟩
  go_wp2
  go_ret2
  exact ⟨rfl, rfl⟩
end Go.Proofs.YtnebmbabfghlaaaDoor
