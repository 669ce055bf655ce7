/- Contracts of the document's Least, Greatest and SameLists. -/
import Derived.Test.YtnebmbabfghlaaaDoorRefSort
namespace Go.Proofs.YtnebmbabfghlaaaDoor
open Go.RowKit

theorem rank_zero_iff (xs : List Nat) (x : Nat) : rankN xs x = 0 ↔ ∀ j, j < xs.length → ¬ K (nth xs j) < K x := by
  unfold rankN
  rw [List.countP_eq_zero]
  constructor
  · intro h j hj
    have := h (xs[j]) (List.getElem_mem hj)
    rw [nth_eq xs j hj]
    simpa [ah] using this
  · intro h y hy
    obtain ⟨j, hj, rfl⟩ := List.getElem_of_mem hy
    have := h j hj
    rw [nth_eq xs j hj] at this
    simpa [ah] using this

set_option maxHeartbeats 2000000 in
theorem refLeast_any (a : Option Addr) (cap n : Nat) (xs : List Nat) (w : World) (h : FAt w a xs) (hn : xs.length = n) :
    Calls Tryd.prog 12 #[.slice a n cap] w fun e w' => ∃ y, e = .returned (.tuple #[.float .f64 y, .bool (someB xs)]) ∧ (n = 0 → y = 0) ∧ (0 < n → ∃ p, p < n ∧ y = nth xs p ∧ rankN xs y = 0) ∧ w' = w := by
  have H : Hid (FAt w a xs) := h
  have HN : Hid (xs.length = n) := hn
  have hl : n ≤ 100 := by have := h.1; omega
  have hsb : someB xs = decide (0 < n) := by unfold someB; rw [hn]
  rw [hsb]
  clear h hn hsb
  go_enter Tryd.func12, Tryd.ntmps12
  go_wp2
  go_loopg [4] n (fun q x wr => ∃ i : Nat, i + q = n ∧ x = .int .i64 i ∧ Aside (∀ j, j < i → rankN xs (nth xs j) ≠ 0) ∧ wr = w)
  case atStart => exact ⟨0, by omega, rfl, fun j h => by omega, rfl⟩
  case round =>
    obtain ⟨i, hq, rfl, hr, rfl⟩ := hrel
    cases gk with
    | succ q =>
      have hin : i < n := by omega
      have hini : (i : Int) < (n : Int) := by omega
      obtain ⟨ba, oa, rfl, hba, hca⟩ := H.out.at_ (by rw [HN.out]; omega)
      have ci := hca i (by rw [HN.out]; exact hin)
      clear hca
      obtain ⟨r, hre⟩ : ∃ r, rankN xs (nth xs i) = r := ⟨_, rfl⟩
      have HRE : Hid (rankN xs (nth xs i) = r) := hre
      have HC := refRank_any (some ⟨ba, oa, none⟩) cap (nth xs i) xs wr H.out
      rw [HN.out, hre] at HC
      have HCC : Hid (Calls Tryd.prog 19 #[.slice (some ⟨ba, oa, none⟩) n cap, .float .f64 (nth xs i)] wr fun e w' => e = .returned (.int .i64 (r : Nat)) ∧ w' = wr) := HC
      clear HC hre
      by_cases h0 : r = 0
      · subst h0
        have hd0 : decide (0 < n) = true := by simp; omega
        clear hr
        go_wp2_with fail
        refine Calls.mono (Hid.out HCC) ?_
        rintro e w1 ⟨rfl, rfl⟩
        go_wp2
        go_ret2
        exact ⟨nth xs i, by first | rfl | (rw [hd0]; rfl), fun h => by omega, fun _ => ⟨i, hin, rfl, HRE.out⟩, rfl⟩
      · have hz : ((r : Int) == 0) = false := by simp; omega
        have HR' : Hid (∀ j, j < i + 1 → rankN xs (nth xs j) ≠ 0) := fun j hj => by
          by_cases e : j = i
          · rw [e, HRE.out]; exact h0
          · exact hr.out j (by omega)
        clear hr
        go_wp2_with fail
        refine Calls.mono (Hid.out HCC) ?_
        rintro e w1 ⟨rfl, rfl⟩
        go_wp2
        go_roundg q
        case measure => omega
        case rel => exact ⟨i + 1, by omega, by go_num, HR'.out, rfl⟩
    | zero =>
      obtain rfl : i = n := by omega
      have hn0 : i = 0 := by
        rcases Nat.eq_zero_or_pos i with h | h
        · exact h
        · exfalso
          obtain ⟨p, h1, h2, h3⟩ := least_at xs (i - 1) (by rw [HN.out]; omega)
          refine hr.out p (by omega) ((rank_zero_iff xs _).2 (fun j hj => ?_))
          by_cases e : j = p
          · rw [e]; omega
          · have := (h3 j (by rw [HN.out] at hj; omega) e).le
            unfold key at this; omega
      subst hn0
      clear hr
      go_wp2
      go_ret2
      refine ⟨0, rfl, ?_⟩
      simp

/-- None of the first k is behind x. -/
def mostB (xs : List Nat) (x k : Nat) : Bool := (List.range k).all fun j => !ah x (nth xs j)
theorem most_step (xs : List Nat) (x k : Nat) : mostB xs x (k + 1) = (mostB xs x k && !ah x (nth xs k)) := by
  unfold mostB; rw [List.range_succ, List.all_append]; simp
theorem most_iff (xs : List Nat) (x k : Nat) : mostB xs x k = true ↔ ∀ j, j < k → ¬ K x < K (nth xs j) := by
  unfold mostB ah; simp

set_option maxHeartbeats 4000000 in
theorem refGreatest_any (a : Option Addr) (cap n : Nat) (xs : List Nat) (w : World) (h : FAt w a xs) (hn : xs.length = n) :
    Calls Tryd.prog 14 #[.slice a n cap] w fun e w' => ∃ y, e = .returned (.tuple #[.float .f64 y, .bool (someB xs)]) ∧ (n = 0 → y = 0) ∧ (0 < n → ∃ p, p < n ∧ y = nth xs p ∧ ∀ j, j < n → ¬ K y < K (nth xs j)) ∧ Below w.heap.size w w' := by
  have H : Hid (FAt w a xs) := h
  have HN : Hid (xs.length = n) := hn
  have hl : n ≤ 100 := by have := h.1; omega
  have hsb : someB xs = decide (0 < n) := by unfold someB; rw [hn]
  rw [hsb]
  clear h hn hsb
  go_enter Tryd.func14, Tryd.ntmps14
  go_wp2
  go_loopg [4, 5, 6] n (fun q x _ _ wr => ∃ i : Nat, i + q = n ∧ x = .int .i64 i ∧ Aside (∀ j, j < i → mostB xs (nth xs j) n = false) ∧ Below w.heap.size w wr)
  case atStart => exact ⟨0, by omega, rfl, fun j h => by omega, Below.refl _ _⟩
  case round =>
    obtain ⟨i, hq, rfl, hr, hb⟩ := hrel
    cases gk with
    | succ q =>
      have hin : i < n := by omega
      have hini : (i : Int) < (n : Int) := by omega
      obtain ⟨ba, oa, rfl, hba, hca⟩ := H.out.at_ (by rw [HN.out]; omega)
      have HC : Hid (∀ W, Below w.heap.size w W → ∀ j, j < n → W.cell? ⟨ba, oa + j, none⟩ = some (.float .f64 (nth xs j))) := fun W hW j hj => (hW.cell (p := ⟨ba, oa + j, none⟩) hba).trans (hca j (by rw [HN.out]; exact hj))
      have HQ : Hid (i + (q + 1) = n) := hq
      clear hca hq
      go_wp2
      go_loopg [5, 6] n (fun r m y wy => ∃ k : Nat, k + r = n ∧ y = .int .i64 k ∧ m = .bool (mostB xs (nth xs i) k) ∧ Below w.heap.size w wy)
      case atStart => exact ⟨0, by omega, rfl, rfl, hb⟩
      case round =>
        clear hb
        obtain ⟨k, hkr, rfl, rfl, hb⟩ := hrel
        cases gk with
        | succ r =>
          have hkn : k < n := by omega
          have hkni : (k : Int) < (n : Int) := by omega
          have ci := HC.out wr hb i hin
          have ck := HC.out wr hb k hkn
          have HM : Hid (mostB xs (nth xs i) (k + 1) = (mostB xs (nth xs i) k && !ah (nth xs i) (nth xs k))) := most_step xs _ k
          have HKR : Hid (k + (r + 1) = n) := hkr
          clear hkr
          cases hmb : mostB xs (nth xs i) k with
          | true =>
            rw [hmb] at HM
            go_wp2
            go_quiet ((go_at_call 45; exact Calls.quiet_of_same (refAhead_any _ _ _)))
            go_wp2
            go_roundg r
            case measure => omega
            case rel => exact ⟨k + 1, by have := HKR.out; omega, by go_num, by rw [HM.out]; rfl, below_drewN hb _⟩
          | false =>
            rw [hmb] at HM
            go_wp2
            go_quiet ((go_at_call 45; exact Calls.quiet_of_same (refAhead_any _ _ _)))
            go_wp2
            go_roundg r
            case measure => omega
            case rel => exact ⟨k + 1, by have := HKR.out; omega, by go_num, by rw [HM.out]; rfl, below_drewN hb _⟩
        | zero =>
          obtain rfl : k = n := by omega
          have ci := HC.out wr hb i hin
          cases hmb : mostB xs (nth xs i) k with
          | true =>
            have HF : Hid (∀ j, j < k → ¬ K (nth xs i) < K (nth xs j)) := (most_iff xs _ k).1 hmb
            have hd0 : decide (0 < k) = true := by simp; omega
            clear hr
            go_wp2
            go_ret2
            exact ⟨nth xs i, by first | rfl | (rw [hd0]; rfl), fun h => by omega, fun _ => ⟨i, hin, rfl, HF.out⟩, hb⟩
          | false =>
            have HR' : Hid (∀ j, j < i + 1 → mostB xs (nth xs j) k = false) := fun j hj => by
              by_cases e : j = i
              · rw [e]; exact hmb
              · exact hr.out j (by omega)
            clear hr
            go_wp2
            go_roundg q
            case measure => omega
            case rel => exact ⟨i + 1, by have := HQ.out; omega, by go_num, HR'.out, hb⟩
    | zero =>
      obtain rfl : i = n := by omega
      have hn0 : i = 0 := by
        rcases Nat.eq_zero_or_pos i with h | h
        · exact h
        · exfalso
          obtain ⟨p, h1, h2, h3⟩ := greatest_at xs (i - 1) (by rw [HN.out]; omega)
          have := hr.out p (by omega)
          have h4 : mostB xs (nth xs p) i = true := (most_iff xs _ i).2 (fun j hj => by have := h3 j (by omega); omega)
          rw [h4] at this; cases this
      subst hn0
      have HBB : Hid (Below w.heap.size w wr) := hb
      clear hr hb
      go_wp2
      go_ret2
      refine ⟨0, rfl, ?_⟩
      simp
      exact HBB.out

/-- Two lists with the same places in the order. -/
theorem sameLists_yes (a b : Option Addr) (c1 c2 : Nat) (xs ys : List Nat) (n : Nat) (w : World) (hx : xs.length = n) (hy : ys.length = n) (h1 : FAt w a xs) (h2 : FAt w b ys) (hs : ∀ i, i < n → sameB (nth xs i) (nth ys i) = true) :
    Calls Tryd.prog 20 #[.slice a n c1, .slice b n c2] w fun e w' => e = .returned (.bool true) ∧ Below w.heap.size w w' := by
  have H1 : Hid (FAt w a xs) := h1
  have H2 : Hid (FAt w b ys) := h2
  have HX : Hid (xs.length = n) := hx
  have HY : Hid (ys.length = n) := hy
  have HS : Hid (∀ i, i < n → sameB (nth xs i) (nth ys i) = true) := hs
  have hl : n ≤ 100 := by have := h1.1; omega
  clear h1 h2 hx hy hs
  go_enter Tryd.func20, Tryd.ntmps20
  go_wp2
  go_loopg [5] n (fun q x wr => ∃ i : Nat, i + q = n ∧ x = .int .i64 i ∧ Below w.heap.size w wr)
  case atStart => exact ⟨0, by omega, rfl, Below.refl _ _⟩
  case round =>
    obtain ⟨i, hq, rfl, hb⟩ := hrel
    cases gk with
    | zero =>
      obtain rfl : i = n := by omega
      go_wp2
      go_ret
      exact ⟨rfl, hb⟩
    | succ q =>
      have hii : (i : Int) < (n : Int) := by omega
      obtain ⟨b1, o1, rfl, hb1, hc1⟩ := H1.out.at_ (by rw [HX.out]; omega)
      obtain ⟨b2, o2, rfl, hb2, hc2⟩ := H2.out.at_ (by rw [HY.out]; omega)
      have x1 : wr.cell? ⟨b1, o1 + i, none⟩ = some (.float .f64 (nth xs i)) := (hb.cell (p := ⟨b1, o1 + i, none⟩) hb1).trans (hc1 i (by rw [HX.out]; omega))
      have x2 : wr.cell? ⟨b2, o2 + i, none⟩ = some (.float .f64 (nth ys i)) := (hb.cell (p := ⟨b2, o2 + i, none⟩) hb2).trans (hc2 i (by rw [HY.out]; omega))
      have hsm := HS.out i (by omega)
      clear hc1 hc2
      go_wp2
      go_quiet ((go_at_call 17; exact Calls.quiet_of_same (same_any _ _ _)))
      go_wp2
      go_roundg q
      case measure => omega
      case rel => exact ⟨i + 1, by omega, by go_num, below_drewN hb _⟩
end Go.Proofs.YtnebmbabfghlaaaDoor
