/- Lists of texts in memory, as plain lists; contracts of SameTexts (the document's) and slices.Equal. -/
import Derived.Test.YtlpikfebbfcofaaDoorBase
import Derived.Deep.QuietTactic
import Derived.BigQuiet
namespace Go.Proofs.YtlpikfebbfcofaaDoor
open Go.RowKit

def nth (xs : List ByteArray) (i : Nat) : ByteArray := xs.getD i ByteArray.empty
theorem nth_eq (xs : List ByteArray) (i : Nat) (h : i < xs.length) : nth xs i = xs[i] := by simp [nth, List.getD, h]
theorem nth_some (xs : List ByteArray) (i : Nat) (x : ByteArray) (h : xs[i]? = some x) : nth xs i = x := by simp [nth, List.getD, h]
theorem nth_mem (xs : List ByteArray) (i : Nat) (h : i < xs.length) : nth xs i ∈ xs := by rw [nth_eq xs i h]; exact List.getElem_mem h
theorem take_snoc (xs : List ByteArray) (k : Nat) (h : k < xs.length) : xs.take (k + 1) = xs.take k ++ [nth xs k] := by
  rw [List.take_succ_eq_append_getElem h, nth_eq xs k h]

/-- Texts at a slice's address. -/
def TAt (w : World) (a : Option Addr) (xs : List ByteArray) : Prop :=
  xs = [] ∨ ∃ b o, a = some ⟨b, o, none⟩ ∧ b < w.heap.size ∧ ∀ i, i < xs.length → w.cell? ⟨b, o + i, none⟩ = some (.string (nth xs i))

theorem TAt.nil (w : World) (a : Option Addr) : TAt w a [] := .inl rfl
theorem TAt.below {w w' : World} {a : Option Addr} {xs : List ByteArray} (h : TAt w a xs) {n : Nat} (hb : Below n w w') (hn : w.heap.size ≤ n) : TAt w' a xs := by
  rcases h with h | ⟨b, o, e, hlt, hc⟩
  · exact .inl h
  · exact .inr ⟨b, o, e, by have := hb.size; omega, fun i hi => (hb.cell (p := ⟨b, o + i, none⟩) (by show b < n; omega)).trans (hc i hi)⟩
theorem TAt.take {w : World} {a : Option Addr} {xs : List ByteArray} (h : TAt w a xs) (k : Nat) : TAt w a (xs.take k) := by
  rcases h with h | ⟨b, o, e, hlt, hc⟩
  · subst h; exact .inl (by simp)
  · refine .inr ⟨b, o, e, hlt, fun i hi => ?_⟩
    have hi' : i < k ∧ i < xs.length := by rw [List.length_take] at hi; omega
    rw [hc i hi'.2]
    rw [nth_eq _ _ hi, nth_eq _ _ hi'.2, List.getElem_take]
theorem below_drew (w : World) (m : Nat) : Below w.heap.size w (w.drewN m) := ⟨rfl, rfl, rfl, Nat.le_refl _, fun _ _ => rfl⟩
theorem below_chain {w0 w w' : World} (h : Below w0.heap.size w0 w) (h' : Below w.heap.size w w') : Below w0.heap.size w0 w' := h.trans (h'.mono h.size)

/-- two lists, place by place -/
theorem eq_of_nth {xs ys : List ByteArray} (hl : xs.length = ys.length) (h : ∀ j, j < xs.length → nth xs j = nth ys j) : xs = ys := by
  apply List.ext_getElem hl
  intro j h1 h2
  rw [← nth_eq xs j h1, ← nth_eq ys j h2]; exact h j h1

set_option maxHeartbeats 1000000 in
theorem same_len (a1 a2 : Option Addr) (n m c1 c2 : Nat) (w : World) (h : ¬ n = m) :
    Calls Tryd.prog 13 #[.slice a1 n c1, .slice a2 m c2] w fun e w' => e = .returned (.bool false) ∧ w' = w := by
  have h' : ((n : Int) != (m : Int)) = true := by simp; omega
  have h'' : ¬ (n : Int) = (m : Int) := by omega
  clear h
  go_enter Tryd.func13, Tryd.ntmps13
  go_wp2
  go_ret
  exact ⟨rfl, rfl⟩
set_option maxHeartbeats 1000000 in
theorem same_zero (a1 a2 : Option Addr) (c1 c2 : Nat) (w : World) :
    Calls Tryd.prog 13 #[.slice a1 0 c1, .slice a2 0 c2] w fun e w' => e = .returned (.bool true) ∧ w' = w := by
  go_enter Tryd.func13, Tryd.ntmps13
  go_wp2
  go_loop [5] (fun i => i = .int .i64 0) (fun _ => 0)
  case atStart => rfl
  case round =>
    subst hrel
    go_wp2
    go_ret
    exact ⟨rfl, rfl⟩
set_option maxHeartbeats 1000000 in
theorem same_some (b1 o1 c1 b2 o2 c2 n : Nat) (xs ys : List ByteArray) (w : World) (hx : xs.length = n) (hy : ys.length = n) (hn : n ≤ 9223372036854775807)
    (h1 : ∀ i, i < n → w.cell? ⟨b1, o1 + i, none⟩ = some (.string (nth xs i))) (h2 : ∀ i, i < n → w.cell? ⟨b2, o2 + i, none⟩ = some (.string (nth ys i))) :
    Calls Tryd.prog 13 #[.slice (some ⟨b1, o1, none⟩) n c1, .slice (some ⟨b2, o2, none⟩) n c2] w fun e w' => e = .returned (.bool (decide (xs = ys))) ∧ ∃ m, w' = w.drewN m := by
  have HX : Hid (xs.length = n) := hx
  have HY : Hid (ys.length = n) := hy
  have H1 : Hid (∀ i, i < n → w.cell? ⟨b1, o1 + i, none⟩ = some (.string (nth xs i))) := h1
  have H2 : Hid (∀ i, i < n → w.cell? ⟨b2, o2 + i, none⟩ = some (.string (nth ys i))) := h2
  clear hx hy h1 h2
  obtain ⟨res, hres⟩ : ∃ r, decide (xs = ys) = r := ⟨_, rfl⟩
  have HR : Hid (decide (xs = ys) = res) := hres
  rw [hres]
  clear hres
  go_enter Tryd.func13, Tryd.ntmps13
  go_wp2
  go_loopw [5] (fun i wr => ∃ k m : Nat, k ≤ n ∧ i = .int .i64 k ∧ wr = w.drewN m ∧ Hid (∀ j, j < k → nth xs j = nth ys j)) (fun i _ => n - (intOf i).toNat)
  case atStart => exact ⟨0, 0, Nat.zero_le _, rfl, rfl, fun j hj => absurd hj (Nat.not_lt_zero j)⟩
  case round =>
    obtain ⟨k, m, hk, rfl, rfl, H⟩ := hrel
    by_cases hlt : k < n
    · have x1 := H1.out k hlt
      have x2 := H2.out k hlt
      have hb : (k : Int) < (n : Int) := by omega
      obtain ⟨X, hX⟩ : ∃ X, nth xs k = X := ⟨_, rfl⟩
      obtain ⟨Y, hY⟩ : ∃ Y, nth ys k = Y := ⟨_, rfl⟩
      rw [hX] at x1
      rw [hY] at x2
      have KX : Hid (nth xs k = X) := hX
      have KY : Hid (nth ys k = Y) := hY
      clear hX hY
      by_cases he : X = Y
      · subst he
        go_wp2
        go_quiet (fail)
        go_wp2
        go_roundw
        case rel => exact ⟨k + 1, _, by omega, by go_num, rfl, fun j hj => by
          by_cases e : j = k
          · subst e; rw [KX.out, KY.out]
          · exact H.out j (by omega)⟩
        case measure => simp [intOf]; omega
      · have e1 : ¬ X.toList = Y.toList := by
          rw [ByteArray.toList_eq, ByteArray.toList_eq]; exact fun e => he (ls_inj e)
        have e2 : (X.toList == Y.toList) = false := by simpa using e1
        have HE : Hid (¬ X = Y) := he
        clear he
        go_wp2
        go_quiet (fail)
        go_wp2
        go_ret
        refine ⟨ret_bool ?_, _, World.drewN_drewN ..⟩
        rw [← HR.out]
        symm
        rw [decide_eq_false_iff_not]
        intro e
        apply HE.out
        rw [← KX.out, ← KY.out, e]
    · go_wp2
      go_ret
      refine ⟨ret_bool ?_, m, rfl⟩
      rw [← HR.out]
      symm
      rw [decide_eq_true_eq]
      exact eq_of_nth (HX.out.trans HY.out.symm) (fun j hj => H.out j (by have := HX.out; omega))
theorem same_any (a1 a2 : Option Addr) (c1 c2 : Nat) (xs ys : List ByteArray) (w : World) (h1 : TAt w a1 xs) (h2 : TAt w a2 ys) (hn : xs.length ≤ 9223372036854775807) :
    Calls Tryd.prog 13 #[.slice a1 xs.length c1, .slice a2 ys.length c2] w fun e w' => e = .returned (.bool (decide (xs = ys))) ∧ ∃ m, w' = w.drewN m := by
  by_cases hl : xs.length = ys.length
  · by_cases h0 : xs.length = 0
    · have ex : xs = [] := List.length_eq_zero_iff.1 h0
      have ey : ys = [] := List.length_eq_zero_iff.1 (by omega)
      subst ex; subst ey
      exact (same_zero a1 a2 c1 c2 w).mono fun e w' ⟨he, hw⟩ => ⟨by rw [he]; rfl, 0, by rw [hw]; rfl⟩
    · obtain ⟨b1, o1, rfl, _, q1⟩ := h1.resolve_left (by intro e; subst e; exact h0 rfl)
      obtain ⟨b2, o2, rfl, _, q2⟩ := h2.resolve_left (by intro e; subst e; exact h0 hl)
      rw [← hl] at q2 ⊢
      exact same_some b1 o1 c1 b2 o2 c2 _ xs ys w rfl hl.symm hn q1 q2
  · refine (same_len a1 a2 _ _ c1 c2 w hl).mono fun e w' ⟨he, hw⟩ => ⟨?_, 0, by rw [hw]; rfl⟩
    rw [he]
    refine ret_bool ?_
    symm
    rw [decide_eq_false_iff_not]
    intro e; exact hl (by rw [e])

set_option maxHeartbeats 1000000 in
theorem equal_len (a1 a2 : Option Addr) (n m c1 c2 : Nat) (w : World) (h : ¬ n = m) :
    Calls Tryd.prog 26 #[.slice a1 n c1, .slice a2 m c2] w fun e w' => e = .returned (.bool false) ∧ w' = w := by
  have h' : ((n : Int) != (m : Int)) = true := by simp; omega
  have h'' : ¬ (n : Int) = (m : Int) := by omega
  clear h
  go_enter Tryd.func26, Tryd.ntmps26
  go_wp2
  go_ret
  exact ⟨rfl, rfl⟩
set_option maxHeartbeats 1000000 in
theorem equal_zero (a1 a2 : Option Addr) (c1 c2 : Nat) (w : World) :
    Calls Tryd.prog 26 #[.slice a1 0 c1, .slice a2 0 c2] w fun e w' => e = .returned (.bool true) ∧ w' = w := by
  go_enter Tryd.func26, Tryd.ntmps26
  go_wp2
  go_loop [5, 13] (fun _ i => i = .int .i64 0) (fun _ _ => 0)
  case atStart => rfl
  case round =>
    subst hrel
    go_wp2
    go_ret
    exact ⟨rfl, rfl⟩
set_option maxHeartbeats 1000000 in
theorem equal_some (b1 o1 c1 b2 o2 c2 n : Nat) (xs ys : List ByteArray) (w : World) (hx : xs.length = n) (hy : ys.length = n) (hn : n ≤ 9223372036854775807)
    (h1 : ∀ i, i < n → w.cell? ⟨b1, o1 + i, none⟩ = some (.string (nth xs i))) (h2 : ∀ i, i < n → w.cell? ⟨b2, o2 + i, none⟩ = some (.string (nth ys i))) :
    Calls Tryd.prog 26 #[.slice (some ⟨b1, o1, none⟩) n c1, .slice (some ⟨b2, o2, none⟩) n c2] w fun e w' => e = .returned (.bool (decide (xs = ys))) ∧ ∃ m, w' = w.drewN m := by
  have HX : Hid (xs.length = n) := hx
  have HY : Hid (ys.length = n) := hy
  have H1 : Hid (∀ i, i < n → w.cell? ⟨b1, o1 + i, none⟩ = some (.string (nth xs i))) := h1
  have H2 : Hid (∀ i, i < n → w.cell? ⟨b2, o2 + i, none⟩ = some (.string (nth ys i))) := h2
  clear hx hy h1 h2
  obtain ⟨res, hres⟩ : ∃ r, decide (xs = ys) = r := ⟨_, rfl⟩
  have HR : Hid (decide (xs = ys) = res) := hres
  rw [hres]
  clear hres
  go_enter Tryd.func26, Tryd.ntmps26
  go_wp2
  go_loopw [5, 13] (fun _ i wr => ∃ k m : Nat, k ≤ n ∧ i = .int .i64 k ∧ wr = w.drewN m ∧ Hid (∀ j, j < k → nth xs j = nth ys j)) (fun _ i _ => n - (intOf i).toNat)
  case atStart => exact ⟨0, 0, Nat.zero_le _, rfl, rfl, fun j hj => absurd hj (Nat.not_lt_zero j)⟩
  case round =>
    obtain ⟨k, m, hk, rfl, rfl, H⟩ := hrel
    by_cases hlt : k < n
    · have x1 := H1.out k hlt
      have x2 := H2.out k hlt
      have hb : (k : Int) < (n : Int) := by omega
      obtain ⟨X, hX⟩ : ∃ X, nth xs k = X := ⟨_, rfl⟩
      obtain ⟨Y, hY⟩ : ∃ Y, nth ys k = Y := ⟨_, rfl⟩
      rw [hX] at x1
      rw [hY] at x2
      have KX : Hid (nth xs k = X) := hX
      have KY : Hid (nth ys k = Y) := hY
      clear hX hY
      by_cases he : X = Y
      · subst he
        go_wp2
        go_quiet (fail)
        go_wp2
        go_roundw
        case rel => exact ⟨k + 1, _, by omega, by go_num, rfl, fun j hj => by
          by_cases e : j = k
          · subst e; rw [KX.out, KY.out]
          · exact H.out j (by omega)⟩
        case measure => simp [intOf]; omega
      · have e1 : ¬ X.toList = Y.toList := by
          rw [ByteArray.toList_eq, ByteArray.toList_eq]; exact fun e => he (ls_inj e)
        have e2 : (X.toList == Y.toList) = false := by simpa using e1
        have HE : Hid (¬ X = Y) := he
        clear he
        go_wp2
        go_quiet (fail)
        go_wp2
        go_ret
        refine ⟨ret_bool ?_, _, World.drewN_drewN ..⟩
        rw [← HR.out]
        symm
        rw [decide_eq_false_iff_not]
        intro e
        apply HE.out
        rw [← KX.out, ← KY.out, e]
    · go_wp2
      go_ret
      refine ⟨ret_bool ?_, m, rfl⟩
      rw [← HR.out]
      symm
      rw [decide_eq_true_eq]
      exact eq_of_nth (HX.out.trans HY.out.symm) (fun j hj => H.out j (by have := HX.out; omega))
theorem equal_any (a1 a2 : Option Addr) (c1 c2 : Nat) (xs ys : List ByteArray) (w : World) (h1 : TAt w a1 xs) (h2 : TAt w a2 ys) (hn : xs.length ≤ 9223372036854775807) :
    Calls Tryd.prog 26 #[.slice a1 xs.length c1, .slice a2 ys.length c2] w fun e w' => e = .returned (.bool (decide (xs = ys))) ∧ ∃ m, w' = w.drewN m := by
  by_cases hl : xs.length = ys.length
  · by_cases h0 : xs.length = 0
    · have ex : xs = [] := List.length_eq_zero_iff.1 h0
      have ey : ys = [] := List.length_eq_zero_iff.1 (by omega)
      subst ex; subst ey
      exact (equal_zero a1 a2 c1 c2 w).mono fun e w' ⟨he, hw⟩ => ⟨by rw [he]; rfl, 0, by rw [hw]; rfl⟩
    · obtain ⟨b1, o1, rfl, _, q1⟩ := h1.resolve_left (by intro e; subst e; exact h0 rfl)
      obtain ⟨b2, o2, rfl, _, q2⟩ := h2.resolve_left (by intro e; subst e; exact h0 hl)
      rw [← hl] at q2 ⊢
      exact equal_some b1 o1 c1 b2 o2 c2 _ xs ys w rfl hl.symm hn q1 q2
  · refine (equal_len a1 a2 _ _ c1 c2 w hl).mono fun e w' ⟨he, hw⟩ => ⟨?_, 0, by rw [hw]; rfl⟩
    rw [he]
    refine ret_bool ?_
    symm
    rw [decide_eq_false_iff_not]
    intro e; exact hl (by rw [e])

end Go.Proofs.YtlpikfebbfcofaaDoor
