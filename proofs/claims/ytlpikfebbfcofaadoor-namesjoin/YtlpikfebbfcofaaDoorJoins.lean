/- Contracts of names.Join and of the document's Join, for every list of texts: the path of names, or that it may not be. -/
import Derived.Test.YtlpikfebbfcofaaDoorShelf
namespace Go.Proofs.YtlpikfebbfcofaaDoor
open Go.RowKit

/-- what a Join answers -/
def jv : Option (List UInt8) → Value
  | none => .tuple #[.string ⟨#[]⟩, .int .i64 3]
  | some p => .tuple #[.string (mk p), .int .i64 0]

/-- the path of the first k names has so many bytes -/
def fz (xs : List ByteArray) (k : Nat) : Nat := (fl (lss (xs.take k))).length
theorem fz_zero (xs : List ByteArray) : fz xs 0 = 0 := rfl
theorem lss_append (a b : List ByteArray) : lss (a ++ b) = lss a ++ lss b := by simp [lss]
theorem fz_succ (xs : List ByteArray) (k : Nat) (h : k < xs.length) : fz xs (k + 1) = fz xs k + (1 + (nth xs k).size) := by
  unfold fz
  rw [take_snoc xs k h, lss_append]
  show (fl (lss (xs.take k) ++ [ls (nth xs k)])).length = _
  rw [fl_snoc, List.length_append, List.length_cons, ls_size]; omega
theorem fl_append (a b : List (List UInt8)) : fl (a ++ b) = fl a ++ fl b := by simp [fl]
theorem fz_le (xs : List ByteArray) (k : Nat) : fz xs k ≤ (fl (lss xs)).length := by
  unfold fz
  conv => rhs; rw [← List.take_append_drop k xs, lss_append, fl_append, List.length_append]
  omega
theorem fz_all (xs : List ByteArray) (k : Nat) (h : xs.length ≤ k) : fz xs k = (fl (lss xs)).length := by
  unfold fz; rw [List.take_of_length_le h]

def rs (xs : List ByteArray) (k : Nat) : Bool := (lss (xs.take k)).all rt
theorem rs_zero (xs : List ByteArray) : rs xs 0 = true := rfl
theorem rs_succ (xs : List ByteArray) (k : Nat) (h : k < xs.length) : rs xs (k + 1) = (rs xs k && R (nth xs k)) := by
  unfold rs R
  rw [take_snoc xs k h, lss_append, List.all_append]
  simp [lss]
theorem rs_off (xs : List ByteArray) (k : Nat) (h : rs xs k = false) : (lss xs).all rt = false := by
  unfold rs at h
  conv => lhs; rw [← List.take_append_drop k xs, lss_append, List.all_append, h]
  rfl
theorem rs_all (xs : List ByteArray) (k : Nat) (h : xs.length ≤ k) : rs xs k = (lss xs).all rt := by
  unfold rs; rw [List.take_of_length_le h]

theorem Jn_off (xs : List ByteArray) (k : Nat) (h : rs xs k = false) : Jn (lss xs) = none := by
  unfold Jn; rw [rs_off xs k h, if_neg (by simp)]
theorem Jn_long (xs : List ByteArray) (k : Nat) (h : 120 < fz xs k) : Jn (lss xs) = none := by
  unfold Jn; rw [if_neg (by intro e; have := fz_le xs k; omega)]
theorem Jn_on (xs : List ByteArray) (h : rs xs xs.length = true) (h2 : fz xs xs.length ≤ 120) : Jn (lss xs) = some (pth (lss xs)) := by
  unfold Jn; rw [if_pos ⟨by rw [← rs_all xs _ (Nat.le_refl _)]; exact h, by rw [← fz_all xs _ (Nat.le_refl _)]; exact h2⟩]
theorem lss_ne {xs : List ByteArray} (h : 0 < xs.length) : lss xs ≠ [] := by
  intro e
  have := congrArg List.length e
  simp [lss] at this
  subst this; simp at h
theorem join_text (xs : List ByteArray) (h : 0 < xs.length) : (⟨#[47]⟩ : ByteArray) ++ ⟨(Lib.join (xs.map (·.data.toList)) [47]).toArray⟩ = mk (pth (lss xs)) := by
  apply ls_inj
  rw [ls_append, ls_mk, pth, if_neg (lss_ne h), ← join_fl _ (lss_ne h)]
  rfl

theorem join_zero (a : Option Addr) (cap : Nat) (w : World) :
    Calls Tryd.prog 20 #[.slice a 0 cap] w fun e w' => e = .returned (.tuple #[.string ⟨#[47]⟩, .int .i64 0]) ∧ w' = w := by
  go_enter Tryd.func20, Tryd.ntmps20
  go_wp2
  go_loop [4, 6, 9] (fun _ _ i => i = .int .i64 0) (fun _ _ _ => 0)
  case atStart => rfl
  case round =>
    subst hrel
    go_wp2_with (go_at_call 29; refine (join_none _ _ _ _).mono ?_; rintro e w' ⟨rfl, rfl⟩)
    go_ret2
    exact ⟨rfl, rfl⟩

set_option maxHeartbeats 1000000 in
theorem join_some (b o n cap : Nat) (xs : List ByteArray) (w : World) (hx : xs.length = n) (h0 : 0 < n) (hn : n ≤ 140737488355328) (hcap : n ≤ cap) (hb : b < w.heap.size)
    (hc : ∀ i, i < n → w.cell? ⟨b, o + i, none⟩ = some (.string (nth xs i))) (hz : ∀ x ∈ xs, x.size ≤ 140737488351232) :
    Calls Tryd.prog 20 #[.slice (some ⟨b, o, none⟩) n cap] w fun e w' => e = .returned (jv (Jn (lss xs))) ∧ Below w.heap.size w w' := by
  have HX : Hid (xs.length = n) := hx
  have HC : Hid (∀ i, i < n → w.cell? ⟨b, o + i, none⟩ = some (.string (nth xs i))) := hc
  have HZ : Hid (∀ x ∈ xs, x.size ≤ 140737488351232) := hz
  clear hx hc hz
  obtain ⟨J, hJ⟩ : ∃ J, Jn (lss xs) = J := ⟨_, rfl⟩
  have HJ : Hid (Jn (lss xs) = J) := hJ
  rw [hJ]
  clear hJ
  go_enter Tryd.func20, Tryd.ntmps20
  go_wp2
  go_loop [4, 6, 9] (fun z _ i => ∃ k : Nat, k ≤ n ∧ i = .int .i64 k ∧ z = .int .i64 (fz xs k : Nat) ∧ fz xs k ≤ 120 ∧ Hid (rs xs k = true)) (fun _ _ i => n - (intOf i).toNat)
  case atStart => exact ⟨0, Nat.zero_le _, rfl, rfl, Nat.zero_le _, rs_zero xs⟩
  case round =>
    obtain ⟨k, hk, rfl, rfl, hf, H⟩ := hrel
    by_cases hlt : k < n
    · have x1 := HC.out k hlt
      have hlen := HX.out
      have HR : Hid (rs xs (k + 1) = (rs xs k && R (nth xs k))) := rs_succ xs k (by omega)
      have HF : Hid (fz xs (k + 1) = fz xs k + (1 + (nth xs k).size)) := fz_succ xs k (by omega)
      have hsz : (nth xs k).size ≤ 140737488351232 := HZ.out _ (nth_mem xs k (by omega))
      have hml : (nth xs k).size ≤ maxLen := by unfold maxLen; omega
      obtain ⟨X, hX⟩ : ∃ X, nth xs k = X := ⟨_, rfl⟩
      rw [hX] at x1 hsz HR HF hml
      obtain ⟨F, hF⟩ : ∃ F, fz xs k = F := ⟨_, rfl⟩
      rw [hF] at hf HF ⊢
      clear hX hF hlen
      have hb1 : (k : Int) < (n : Int) := by omega
      by_cases h120 : F + (1 + X.size) ≤ 120
      · by_cases hr : R X = true
        · go_wp2_with (go_at_call 11; refine (right_any _ _ hml).mono ?_; rintro e w' ⟨rfl, rfl⟩)
          go_round
          case rel => exact ⟨k + 1, by omega, by go_num, by rw [HF.out]; go_num, by rw [HF.out]; omega, by show rs xs (k + 1) = true; rw [HR.out, H.out, hr]; rfl⟩
          case measure => simp [intOf]; omega
        · have hr' : R X = false := by simpa using hr
          have E : Hid (J = none) := by
            show J = none
            rw [← HJ.out]; exact Jn_off xs (k + 1) (by rw [HR.out, hr', Bool.and_false])
          clear hr
          go_wp2_with (go_at_call 11; refine (right_any _ _ hml).mono ?_; rintro e w' ⟨rfl, rfl⟩)
          go_ret2
          exact ⟨by rw [E.out]; rfl, Below.refl _ _⟩
      · have h120' : (120 : Int) < (F : Int) + (1 + (X.size : Int)) := by omega
        have E : Hid (J = none) := by
          show J = none
          rw [← HJ.out]; exact Jn_long xs (k + 1) (by rw [HF.out]; omega)
        clear h120
        go_wp2
        go_ret2
        exact ⟨by rw [E.out]; rfl, Below.refl _ _⟩
    · obtain rfl : k = n := by omega
      have E : Hid (J = some (pth (lss xs))) := by
        show J = _
        have hlen := HX.out
        rw [← HJ.out]
        subst hlen
        exact Jn_on xs H.out hf
      have C : Hid (Calls Tryd.prog 29 #[.slice (some ⟨b, o, none⟩) k cap, .string ⟨#[47]⟩] w fun e w' => e = .returned (.string ⟨(Lib.join (xs.map (·.data.toList)) [47]).toArray⟩) ∧ Below w.heap.size w w') := by
        have hlen := HX.out
        subst hlen
        refine join_lib b o cap xs ⟨#[47]⟩ w (fun j x hj => ?_) hb hn hcap ?_
        · have hj' : j < xs.length := by
            rcases Nat.lt_or_ge j xs.length with h | h
            · exact h
            · rw [List.getElem?_eq_none h] at hj; cases hj
          rw [HC.out j hj', nth_some xs j x hj]
        · have e := join_fl (lss xs) (lss_ne h0)
          have e2 := congrArg List.length e
          rw [← fz_all xs _ (Nat.le_refl _)] at e2
          simp only [List.length_cons] at e2
          have e3 : (xs.map (·.data.toList)) = lss xs := rfl
          rw [e3]
          show (Lib.join (lss xs) [47]).length ≤ _
          omega
      have HT : Hid ((⟨#[47]⟩ : ByteArray) ++ ⟨(Lib.join (xs.map (·.data.toList)) [47]).toArray⟩ = mk (pth (lss xs))) := by
        have hlen := HX.out
        exact join_text xs (by omega)
      have hTs : (⟨(Lib.join (xs.map (·.data.toList)) [47]).toArray⟩ : ByteArray).size ≤ 120 := by
        have hlen := HX.out
        have e := congrArg (fun s : ByteArray => (ls s).length) HT.out
        simp only [ls_append, ls_mk, List.length_append, ls_size] at e
        rw [pth, if_neg (lss_ne (by omega)), ← fz_all xs k (by omega)] at e
        omega
      obtain ⟨T, hT⟩ : ∃ T, (⟨(Lib.join (xs.map (·.data.toList)) [47]).toArray⟩ : ByteArray) = T := ⟨_, rfl⟩
      rw [hT] at C HT hTs
      clear hT
      go_wp2_with fail
      refine Calls.mono (Hid.out C) ?_
      rintro e w' ⟨rfl, hbel⟩
      go_wp2
      go_ret2
      exact ⟨by rw [E.out, jv, ← HT.out]; rfl, hbel⟩

theorem join_any (a : Option Addr) (cap : Nat) (xs : List ByteArray) (w : World) (h : TAt w a xs) (hn : xs.length ≤ 140737488355328) (hcap : xs.length ≤ cap) (hz : ∀ x ∈ xs, x.size ≤ 140737488351232) :
    Calls Tryd.prog 20 #[.slice a xs.length cap] w fun e w' => e = .returned (jv (Jn (lss xs))) ∧ Below w.heap.size w w' := by
  by_cases h0 : xs.length = 0
  · obtain rfl : xs = [] := List.length_eq_zero_iff.1 h0
    exact (join_zero a cap w).mono fun e w' ⟨he, hw⟩ => ⟨he, hw ▸ Below.refl _ _⟩
  · obtain ⟨b, o, rfl, hb, q⟩ := h.resolve_left (by intro e; subst e; exact h0 rfl)
    exact join_some b o _ cap xs w rfl (by omega) hn hcap hb q hz

theorem refJoin_zero (a : Option Addr) (cap : Nat) (w : World) :
    Calls Tryd.prog 21 #[.slice a 0 cap] w fun e w' => e = .returned (.tuple #[.string ⟨#[47]⟩, .int .i64 0]) ∧ w' = w := by
  go_enter Tryd.func21, Tryd.ntmps21
  go_wp2
  go_ret2
  exact ⟨rfl, rfl⟩

theorem fz_15 (xs : List ByteArray) (k : Nat) (h : rs xs k = true) : fz xs k ≤ 15 * (xs.take k).length := by
  unfold fz
  unfold rs at h
  generalize xs.take k = l at h
  induction l with
  | nil => simp [lss, fl]
  | cons x t ih =>
    simp only [lss, List.map_cons, List.all_cons, Bool.and_eq_true] at h
    have := ih h.2
    have h1 := rt_len h.1
    simp only [lss, List.map_cons, fl, List.flatMap_cons, List.length_append, List.length_cons] at this ⊢
    omega

/-- the text under way -/
def ft (xs : List ByteArray) (k : Nat) : ByteArray := mk (fl (lss (xs.take k)))
theorem ft_size (xs : List ByteArray) (k : Nat) : (ft xs k).size = fz xs k := by
  unfold ft fz; rw [← ls_size, ls_mk]
theorem ft_succ (xs : List ByteArray) (k : Nat) (h : k < xs.length) : ft xs (k + 1) = ft xs k ++ ((⟨#[47]⟩ : ByteArray) ++ nth xs k) := by
  unfold ft
  rw [take_snoc xs k h, lss_append]
  apply ls_inj
  show fl (lss (xs.take k) ++ [ls (nth xs k)]) = _
  rw [fl_snoc, ls_append, ls_append, ls_mk]
  rfl
theorem ft_all (xs : List ByteArray) (k : Nat) (h : xs.length = k) (h0 : 0 < k) : ft xs k = mk (pth (lss xs)) := by
  unfold ft; rw [List.take_of_length_le (by omega), pth, if_neg (lss_ne (by omega))]

set_option maxHeartbeats 1000000 in
theorem refJoin_some (b o n cap : Nat) (xs : List ByteArray) (w : World) (hx : xs.length = n) (h0 : 0 < n) (hn : n ≤ 8796093022208)
    (hc : ∀ i, i < n → w.cell? ⟨b, o + i, none⟩ = some (.string (nth xs i))) (hz : ∀ x ∈ xs, x.size ≤ 140737488351232) :
    Calls Tryd.prog 21 #[.slice (some ⟨b, o, none⟩) n cap] w fun e w' => e = .returned (jv (Jn (lss xs))) ∧ w' = w := by
  have HX : Hid (xs.length = n) := hx
  have HC : Hid (∀ i, i < n → w.cell? ⟨b, o + i, none⟩ = some (.string (nth xs i))) := hc
  have HZ : Hid (∀ x ∈ xs, x.size ≤ 140737488351232) := hz
  clear hx hc hz
  obtain ⟨J, hJ⟩ : ∃ J, Jn (lss xs) = J := ⟨_, rfl⟩
  have HJ : Hid (Jn (lss xs) = J) := hJ
  rw [hJ]
  clear hJ
  have hz0 : ((n : Int) == 0) = false := by simp; omega
  have hz1 : ¬ (n : Int) = 0 := by omega
  go_enter Tryd.func21, Tryd.ntmps21
  go_wp2
  go_loop [4, 5] (fun s i => ∃ k : Nat, k ≤ n ∧ i = .int .i64 k ∧ s = .string (ft xs k) ∧ Hid (rs xs k = true)) (fun _ i => n - (intOf i).toNat)
  case atStart => exact ⟨0, Nat.zero_le _, rfl, rfl, rs_zero xs⟩
  case round =>
    obtain ⟨k, hk, rfl, rfl, H⟩ := hrel
    have hfs : (ft xs k).size ≤ 15 * k := by
      rw [ft_size]
      have h1 := fz_15 xs k H.out
      rw [List.length_take] at h1
      omega
    by_cases hlt : k < n
    · have x1 := HC.out k hlt
      have hlen := HX.out
      have HR : Hid (rs xs (k + 1) = (rs xs k && R (nth xs k))) := rs_succ xs k (by omega)
      have HF : Hid (ft xs (k + 1) = ft xs k ++ ((⟨#[47]⟩ : ByteArray) ++ nth xs k)) := ft_succ xs k (by omega)
      have hsz : (nth xs k).size ≤ 140737488351232 := HZ.out _ (nth_mem xs k (by omega))
      have hml : (nth xs k).size ≤ maxLen := by unfold maxLen; omega
      obtain ⟨X, hX⟩ : ∃ X, nth xs k = X := ⟨_, rfl⟩
      rw [hX] at x1 hsz HR HF hml
      obtain ⟨F, hF⟩ : ∃ F, ft xs k = F := ⟨_, rfl⟩
      rw [hF] at hfs HF ⊢
      have hsum : ((⟨#[47]⟩ : ByteArray) ++ X).size = 1 + X.size := by rw [ByteArray.size_append]; rfl
      clear hX hF hlen
      have hb1 : (k : Int) < (n : Int) := by omega
      by_cases hr : R X = true
      · go_wp2_with (go_at_call 12; refine (refRight_any _ _ hml).mono ?_; rintro e w' ⟨rfl, rfl⟩)
        go_round
        case rel => exact ⟨k + 1, by omega, by go_num, by rw [HF.out], by show rs xs (k + 1) = true; rw [HR.out, H.out, hr]; rfl⟩
        case measure => simp [intOf]; omega
      · have hr' : R X = false := by simpa using hr
        have E : Hid (J = none) := by
          show J = none
          rw [← HJ.out]; exact Jn_off xs (k + 1) (by rw [HR.out, hr', Bool.and_false])
        clear hr
        go_wp2_with (go_at_call 12; refine (refRight_any _ _ hml).mono ?_; rintro e w' ⟨rfl, rfl⟩)
        go_ret2
        exact ⟨by rw [E.out]; rfl, rfl⟩
    · obtain rfl : k = n := by omega
      have hlen := HX.out
      have HT : Hid (ft xs k = mk (pth (lss xs))) := ft_all xs k hlen h0
      have HS : Hid ((ft xs k).size = fz xs k) := ft_size xs k
      by_cases h120 : (ft xs k).size ≤ 120
      · have E : Hid (J = some (pth (lss xs))) := by
          show J = _
          rw [← HJ.out]
          rw [HS.out] at h120
          subst hlen
          exact Jn_on xs H.out h120
        obtain ⟨F, hF⟩ : ∃ F, ft xs k = F := ⟨_, rfl⟩
        rw [hF] at hfs HT h120 ⊢
        clear hF hlen
        go_wp2
        go_ret2
        exact ⟨by rw [E.out, jv, ← HT.out]; rfl, rfl⟩
      · have E : Hid (J = none) := by
          show J = none
          rw [← HJ.out]; exact Jn_long xs k (by rw [← HS.out]; omega)
        obtain ⟨F, hF⟩ : ∃ F, ft xs k = F := ⟨_, rfl⟩
        rw [hF] at hfs h120 ⊢
        have h120' : (120 : Int) < (F.size : Int) := by omega
        clear hF hlen h120
        go_wp2
        go_ret2
        exact ⟨by rw [E.out]; rfl, rfl⟩

theorem refJoin_any (a : Option Addr) (cap : Nat) (xs : List ByteArray) (w : World) (h : TAt w a xs) (hn : xs.length ≤ 8796093022208) (hz : ∀ x ∈ xs, x.size ≤ 140737488351232) :
    Calls Tryd.prog 21 #[.slice a xs.length cap] w fun e w' => e = .returned (jv (Jn (lss xs))) ∧ w' = w := by
  by_cases h0 : xs.length = 0
  · obtain rfl : xs = [] := List.length_eq_zero_iff.1 h0
    exact (refJoin_zero a cap w).mono fun e w' ⟨he, hw⟩ => ⟨he, hw⟩
  · obtain ⟨b, o, rfl, hb, q⟩ := h.resolve_left (by intro e; subst e; exact h0 rfl)
    exact refJoin_some b o _ cap xs w rfl (by omega) hn q hz
end Go.Proofs.YtlpikfebbfcofaaDoor
