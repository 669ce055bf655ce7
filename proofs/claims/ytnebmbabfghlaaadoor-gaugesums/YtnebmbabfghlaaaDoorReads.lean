/- Contracts of early, Rank, and the document's Rank, Least, Greatest, SameLists, for every list: they only read. -/
import Derived.Test.YtnebmbabfghlaaaDoorLives
namespace Go.Proofs.YtnebmbabfghlaaaDoor
open Go.RowKit
attribute [local go_sem] run_f64bits run_f64from run_f64bits'

theorem FAt.at_ {w : World} {a : Option Addr} {xs : List Nat} (h : FAt w a xs) (h0 : 0 < xs.length) : ∃ b o, a = some ⟨b, o, none⟩ ∧ b < w.heap.size ∧ ∀ i, i < xs.length → w.cell? ⟨b, o + i, none⟩ = some (.float .f64 (nth xs i)) :=
  h.2.2.resolve_left (by intro e; subst e; simp at h0)

/-- How many are ahead of x. -/
def rankN (xs : List Nat) (x : Nat) : Nat := xs.countP (fun y => ah y x)
theorem rank_step (xs : List Nat) (x k : Nat) (h : k < xs.length) : rankN (xs.take (k + 1)) x = rankN (xs.take k) x + if ah (nth xs k) x then 1 else 0 := by
  rw [take_snoc xs k h]; unfold rankN; rw [List.countP_append]
  cases e : ah (nth xs k) x <;> simp [e]
theorem rank_all (xs : List Nat) (x k : Nat) (h : ¬ k < xs.length) : rankN (xs.take k) x = rankN xs x := by rw [List.take_of_length_le (by omega)]
theorem rank_zero (xs : List Nat) (x : Nat) : rankN (xs.take 0) x = 0 := rfl

set_option maxHeartbeats 1000000 in
theorem rank_any (a : Option Addr) (cap x : Nat) (xs : List Nat) (w : World) (h : FAt w a xs) :
    Calls Tryd.prog 18 #[.slice a xs.length cap, .float .f64 x] w fun e w' => e = .returned (.int .i64 (rankN xs x : Nat)) ∧ w' = w := by
  have H : Hid (FAt w a xs) := h
  have hl := h.1
  clear h
  generalize hn : xs.length = n at *
  have HN : Hid (xs.length = n) := hn
  clear hn
  go_enter Tryd.func18, Tryd.ntmps18
  go_wp2
  go_loop [5, 7, 10] (fun r _ i => ∃ k : Nat, k ≤ n ∧ i = .int .i64 k ∧ ∃ q : Nat, q ≤ k ∧ rankN (xs.take k) x = q ∧ r = .int .i64 q) (fun _ _ i => n - (intOf i).toNat)
  case atStart => exact ⟨0, by omega, rfl, 0, by omega, rfl, rfl⟩
  case round =>
    obtain ⟨k, hk, rfl, q, hq, hr, rfl⟩ := hrel
    have HR : Hid (rankN (xs.take k) x = q) := hr
    clear hr
    by_cases hlt : k < n
    · have HS : Hid (rankN (xs.take (k + 1)) x = q + if ah (nth xs k) x then 1 else 0) := by
        show _ = _
        rw [rank_step xs x k (by rw [HN.out]; exact hlt), HR.out]
      obtain ⟨b, o, rfl, hb, hc⟩ := H.out.at_ (by rw [HN.out]; omega)
      have ck := hc k (by rw [HN.out]; exact hlt)
      clear hc HR
      cases hah : ah (nth xs k) x with
      | true =>
        rw [hah] at HS
        go_wp2_with fail
        refine (ahead_any _ _ _).mono ?_
        rw [hah]
        rintro e w' ⟨rfl, rfl⟩
        go_wp2
        go_round
        case rel => exact ⟨k + 1, by omega, by go_num, q + 1, by omega, HS.out, by go_num⟩
        case measure => simp [intOf]; omega
      | false =>
        rw [hah] at HS
        go_wp2_with fail
        refine (ahead_any _ _ _).mono ?_
        rw [hah]
        rintro e w' ⟨rfl, rfl⟩
        go_wp2
        go_round
        case rel => exact ⟨k + 1, by omega, by go_num, q, by omega, HS.out, rfl⟩
        case measure => simp [intOf]; omega
    · have HA : Hid (rankN xs x = q) := by rw [← rank_all xs x k (by rw [HN.out]; exact hlt)]; exact HR.out
      go_wp2
      go_ret
      exact ⟨by rw [HA.out]; rfl, rfl⟩

set_option maxHeartbeats 1000000 in
theorem refRank_any (a : Option Addr) (cap x : Nat) (xs : List Nat) (w : World) (h : FAt w a xs) :
    Calls Tryd.prog 19 #[.slice a xs.length cap, .float .f64 x] w fun e w' => e = .returned (.int .i64 (rankN xs x : Nat)) ∧ w' = w := by
  have H : Hid (FAt w a xs) := h
  have hl := h.1
  clear h
  generalize hn : xs.length = n at *
  have HN : Hid (xs.length = n) := hn
  clear hn
  go_enter Tryd.func19, Tryd.ntmps19
  go_wp2
  go_loop [5, 6] (fun r i => ∃ k : Nat, k ≤ n ∧ i = .int .i64 k ∧ ∃ q : Nat, q ≤ k ∧ rankN (xs.take k) x = q ∧ r = .int .i64 q) (fun _ i => n - (intOf i).toNat)
  case atStart => exact ⟨0, by omega, rfl, 0, by omega, rfl, rfl⟩
  case round =>
    obtain ⟨k, hk, rfl, q, hq, hr, rfl⟩ := hrel
    have HR : Hid (rankN (xs.take k) x = q) := hr
    clear hr
    by_cases hlt : k < n
    · have HS : Hid (rankN (xs.take (k + 1)) x = q + if ah (nth xs k) x then 1 else 0) := by
        show _ = _
        rw [rank_step xs x k (by rw [HN.out]; exact hlt), HR.out]
      obtain ⟨b, o, rfl, hb, hc⟩ := H.out.at_ (by rw [HN.out]; omega)
      have ck := hc k (by rw [HN.out]; exact hlt)
      clear hc HR
      cases hah : ah (nth xs k) x with
      | true =>
        rw [hah] at HS
        go_wp2_with fail
        refine (refAhead_any _ _ _).mono ?_
        rw [hah]
        rintro e w' ⟨rfl, rfl⟩
        go_wp2
        go_round
        case rel => exact ⟨k + 1, by omega, by go_num, q + 1, by omega, HS.out, by go_num⟩
        case measure => simp [intOf]; omega
      | false =>
        rw [hah] at HS
        go_wp2_with fail
        refine (refAhead_any _ _ _).mono ?_
        rw [hah]
        rintro e w' ⟨rfl, rfl⟩
        go_wp2
        go_round
        case rel => exact ⟨k + 1, by omega, by go_num, q, by omega, HS.out, rfl⟩
        case measure => simp [intOf]; omega
    · have HA : Hid (rankN xs x = q) := by rw [← rank_all xs x k (by rw [HN.out]; exact hlt)]; exact HR.out
      go_wp2
      go_ret
      exact ⟨by rw [HA.out]; rfl, rfl⟩

/-- A long list's slice, as it came in: at most 2^44 numbers. -/
def FIn (w : World) (a : Option Addr) (cap : Nat) (xs : List Nat) : Prop :=
  xs.length ≤ cap ∧ cap ≤ 140737488351232 ∧ (a = none → xs = [] ∧ cap = 0) ∧ FAt w a (xs.take 100)

theorem early_any (a : Option Addr) (cap : Nat) (xs : List Nat) (w w1 : World) (h : FIn w a cap xs) :
    Calls Tryd.prog 10 #[.slice a xs.length cap] w1 fun e w' => e = .returned (.slice a (xs.take 100).length cap) ∧ w' = w1 := by
  obtain ⟨h1, h2, h3, _⟩ := h
  cases a with
  | none =>
    obtain ⟨rfl, rfl⟩ := h3 rfl
    go_enter Tryd.func10, Tryd.ntmps10
    go_wp2
    go_ret
    exact ⟨rfl, rfl⟩
  | some x =>
    clear h3
    by_cases hc : xs.length ≤ 100
    · have hkl : (xs.take 100).length = xs.length := by simp; omega
      rw [hkl]
      clear hkl
      go_enter Tryd.func10, Tryd.ntmps10
      go_wp2
      go_ret
      exact ⟨rfl, rfl⟩
    · have hkl : (xs.take 100).length = 100 := by simp; omega
      rw [hkl]
      clear hkl
      have h100 : 100 ≤ cap := by omega
      go_enter Tryd.func10, Tryd.ntmps10
      go_wp2
      go_ret
      exact ⟨rfl, rfl⟩

/-- A list's first hundred, and that early answers them. -/
theorem early_cut (a : Option Addr) (cap : Nat) (xs : List Nat) (w : World) (h : FIn w a cap xs) :
    ∃ ys : List Nat, ys.length ≤ cap ∧ Hid (FAt w a ys) ∧ Hid (∀ w1, Calls Tryd.prog 10 #[.slice a xs.length cap] w1 fun e w' => e = .returned (.slice a ys.length cap) ∧ w' = w1) :=
  ⟨xs.take 100, by have := h.1; rw [List.length_take]; omega, h.2.2.2, fun w1 => early_any a cap xs w w1 h⟩

end Go.Proofs.YtnebmbabfghlaaaDoor
