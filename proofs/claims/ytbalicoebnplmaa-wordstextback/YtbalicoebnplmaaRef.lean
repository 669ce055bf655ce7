/- Contracts of the document's own answers for fields (bit, Field, Get, Put by definition): each comes to the same number as the package's. -/
import Derived.Test.YtbalicoebnplmaaLives
namespace Go.Proofs.Ytbalicoebnplmaa
open Go.RowKit

def hiN (g j : Nat) : Nat := g / 2 ^ j
def bitI (x i : Int) : Int := (hiN x.toNat i.toNat % 2 : Nat)
theorem bitI_bd (x i : Int) : 0 ≤ bitI x i ∧ bitI x i ≤ 1 := by unfold bitI; omega
theorem hiN_succ (g j : Nat) : hiN g (j + 1) = hiN g j / 2 := by unfold hiN; rw [Nat.pow_succ, Nat.div_div_eq_div_mul]
theorem hiN_zero (g : Nat) : hiN g 0 = g := by unfold hiN; simp
theorem hiN_le (g j : Nat) : hiN g j ≤ g := Nat.div_le_self _ _
theorem hiN_none (g j : Nat) (h : g < 2 ^ j) : hiN g j = 0 := Nat.div_eq_of_lt h
theorem hiN_bit (g j : Nat) : (hiN g j % 2 = 1) ↔ g.testBit j = true := by
  unfold hiN; rw [Nat.testBit_eq_decide_div_mod_eq]; simp
theorem hiN_mod (g j : Nat) : hiN g j % 2 = if g.testBit j then 1 else 0 := by
  have h := hiN_bit g j
  cases hb : g.testBit j
  · rw [hb] at h; simp at h ⊢; omega
  · rw [hb] at h; simp at h ⊢; omega
theorem hiN_up (g j : Nat) (h : 1 ≤ j) : 2 * hiN g j + hiN g (j - 1) % 2 = hiN g (j - 1) := by
  obtain ⟨i, rfl⟩ : ∃ i, j = i + 1 := ⟨j - 1, by omega⟩
  rw [hiN_succ, Nat.add_sub_cancel]; omega
theorem hiN_half (g j : Nat) (hg : g < 2 ^ 64) (h : 1 ≤ j) : hiN g j ≤ 9223372036854775807 := by
  have h1 := hiN_up g j h
  have h2 := hiN_le g (j - 1)
  omega

set_option maxHeartbeats 400000 in
theorem bit_any (x i : Int) (w : World) (hx0 : 0 ≤ x) (hx : x ≤ 18446744073709551615) (h0 : 0 ≤ i) (h1 : i ≤ 64) :
    Calls Try.prog 24 #[.int .u64 x, .int .i64 i] w fun e w' => e = .returned (.int .u64 (bitI x i)) ∧ w' = w := by
  obtain ⟨X, rfl⟩ := Int.eq_ofNat_of_zero_le hx0
  obtain ⟨I, rfl⟩ := Int.eq_ofNat_of_zero_le h0
  go_enter Try.func24, Try.ntmps24
  go_wp2
  go_loop [0, 5] (fun t k => ∃ j : Nat, j ≤ I ∧ k = .int .i64 j ∧ t = .int .u64 (hiN X j : Nat)) (fun _ k => I - (intOf k).toNat)
  case atStart => exact ⟨0, Nat.zero_le _, rfl, by rw [hiN_zero]⟩
  case round =>
    obtain ⟨j, hj, rfl, rfl⟩ := hrel
    have hb := hiN_le X j
    by_cases hlt : j < I
    · go_wp2
      go_round
      case rel => exact ⟨j + 1, by omega, by go_num, by rw [hiN_succ]; go_num⟩
      case measure => simp [intOf]; omega
    · have e : j = I := by omega
      subst e
      go_wp2
      go_ret
      exact ⟨ret_int (by unfold bitI; simp), rfl⟩

theorem field_yes (a n : Int) (w : World) (h0 : 0 ≤ a) (h1 : 1 ≤ n) (h2 : a + n ≤ 64) :
    Calls Try.prog 23 #[.int .i64 a, .int .i64 n] w fun e w' => e = .returned (.bool true) ∧ w' = w := by
  have h3 : a < 64 := by omega
  have h4 : n ≤ 64 := by omega
  go_enter Try.func23, Try.ntmps23
  go_wp2
  go_ret
  exact ⟨rfl, rfl⟩

theorem field_no (a n : Int) (w : World) (hno : NoField a n) :
    Calls Try.prog 23 #[.int .i64 a, .int .i64 n] w fun e w' => e = .returned (.bool false) ∧ w' = w := by
  obtain ⟨ha, ha', h⟩ := hno
  by_cases h0 : 0 ≤ a
  · by_cases h3 : a < 64
    · by_cases h1 : 1 ≤ n
      · by_cases h4 : n ≤ 64
        · have h5 : ¬ a + n ≤ 64 := by omega
          clear h
          go_enter Try.func23, Try.ntmps23
          go_wp2
          go_ret
          exact ⟨rfl, rfl⟩
        · clear h
          go_enter Try.func23, Try.ntmps23
          go_wp2
          go_ret
          exact ⟨rfl, rfl⟩
      · clear h
        go_enter Try.func23, Try.ntmps23
        go_wp2
        go_ret
        exact ⟨rfl, rfl⟩
    · clear h
      go_enter Try.func23, Try.ntmps23
      go_wp2
      go_ret
      exact ⟨rfl, rfl⟩
  · clear h
    go_enter Try.func23, Try.ntmps23
    go_wp2
    go_ret
    exact ⟨rfl, rfl⟩

theorem refGet_no (x a n : Int) (w : World) (hno : NoField a n) :
    Calls Try.prog 11 #[.int .u64 x, .int .i64 a, .int .i64 n] w fun e w' => e = .returned (.tuple #[.int .u64 0, .int .i64 1]) ∧ w' = w := by
  go_enter Try.func11, Try.ntmps11
  go_wp2_with (go_at_call 23; refine (field_no _ _ _ hno).mono ?_; rintro e w' ⟨rfl, rfl⟩)
  go_ret2
  exact ⟨rfl, rfl⟩

theorem get_round (X A N j : Nat) (hj : 1 ≤ j) (hN : j ≤ N) (x a : Int) (hx : x = X) (ha : a = A) :
    2 * ((hiN (getN X A N) j : Nat) : Int) + bitI x (a + (j - 1)) = ((hiN (getN X A N) (j - 1) : Nat) : Int) := by
  subst hx; subst ha
  have h := hiN_up (getN X A N) j hj
  have e : bitI X (A + (j - 1)) = ((hiN (getN X A N) (j - 1) % 2 : Nat) : Int) := by
    unfold bitI
    have e1 : ((A : Int) + ((j : Int) - 1)).toNat = A + (j - 1) := by omega
    have e2 : j - 1 < N := by omega
    rw [e1, Int.toNat_natCast, hiN_mod, hiN_mod, getN_bit]
    simp [e2]
  rw [e]; omega

set_option maxHeartbeats 400000 in
theorem refGet_yes (x a n : Int) (w : World) (hx0 : 0 ≤ x) (hx : x ≤ 18446744073709551615) (h0 : 0 ≤ a) (h1 : 1 ≤ n) (h2 : a + n ≤ 64) :
    Calls Try.prog 11 #[.int .u64 x, .int .i64 a, .int .i64 n] w fun e w' => e = .returned (.tuple #[.int .u64 (getI x a n), .int .i64 0]) ∧ w' = w := by
  obtain ⟨X, hX⟩ := Int.eq_ofNat_of_zero_le hx0
  obtain ⟨A, hA⟩ := Int.eq_ofNat_of_zero_le h0
  obtain ⟨N, hN⟩ := Int.eq_ofNat_of_zero_le (show 0 ≤ n by omega)
  have HX : Hid (x = X) := hX
  have HA : Hid (a = A) := hA
  have HN : Hid (n = N) := hN
  have hg : getN X A N < 2 ^ 64 := Nat.lt_of_le_of_lt (getN_le _ _ _) (by omega)
  clear hX hA hN
  go_enter Try.func11, Try.ntmps11
  go_wp2_with (go_at_call 23; refine (field_yes _ _ _ h0 h1 h2).mono ?_; rintro e w' ⟨rfl, rfl⟩)
  go_loop [8, 9] (fun v i => ∃ j : Nat, (j : Int) ≤ n ∧ i = .int .i64 (j - 1) ∧ v = .int .u64 (hiN (getN X A N) j : Nat)) (fun _ i => (intOf i + 1).toNat)
  case atStart => exact ⟨N, by rw [HN.out]; omega, by rw [HN.out], by rw [hiN_none _ _ (getN_lt _ _ _)]; rfl⟩
  case round =>
    obtain ⟨j, hj, rfl, rfl⟩ := hrel
    by_cases hlt : 1 ≤ j
    · have hb := hiN_half (getN X A N) j hg hlt
      have hc := bitI_bd x (a + (j - 1))
      have HR : Hid _ := get_round X A N j hlt (by have := HN.out; omega) x a HX.out HA.out
      go_wp2_with (go_at_call 24; refine (bit_any x (a + (j - 1)) _ hx0 hx (by omega) (by omega)).mono ?_; rintro e w' ⟨rfl, rfl⟩)
      go_round
      case rel => exact ⟨j - 1, by omega, by go_num, by rw [← HR.out]⟩
      case measure => simp [intOf]; omega
    · have e : j = 0 := by omega
      subst e
      go_wp2
      go_ret2
      exact ⟨ret_pair (by rw [hiN_zero]; unfold getI; rw [HX.out, HA.out, HN.out]; simp), rfl⟩

theorem refPut_no (x a n v : Int) (w : World) (hno : NoField a n) :
    Calls Try.prog 13 #[.int .u64 x, .int .i64 a, .int .i64 n, .int .u64 v] w fun e w' => e = .returned (.tuple #[.int .u64 0, .int .i64 1]) ∧ w' = w := by
  go_enter Try.func13, Try.ntmps13
  go_wp2_with (go_at_call 23; refine (field_no _ _ _ hno).mono ?_; rintro e w' ⟨rfl, rfl⟩)
  go_ret2
  exact ⟨rfl, rfl⟩

theorem none_above (v n : Int) (_hv0 : 0 ≤ v) (hv : v ≤ onesI n) (i : Nat) (hi : n.toNat ≤ i) : bitI v i = 0 := by
  have hp : 0 < 2 ^ n.toNat := Nat.two_pow_pos _
  have h1 : v.toNat < 2 ^ n.toNat := by unfold onesI at hv; omega
  have h2 : 2 ^ n.toNat ≤ 2 ^ i := Nat.pow_le_pow_right (by omega) hi
  unfold bitI
  rw [Int.toNat_natCast, hiN_none _ _ (by omega)]; rfl

theorem small_of_none (v n : Int) (hv0 : 0 ≤ v) (hv : v ≤ 18446744073709551615) (h : ∀ i : Nat, n.toNat ≤ i → i < 64 → bitI v i = 0) : v ≤ onesI n := by
  have hp : 0 < 2 ^ n.toNat := Nat.two_pow_pos _
  have h1 : v.toNat < 2 ^ n.toNat := by
    refine Nat.lt_pow_two_of_testBit _ fun i hi => ?_
    by_cases h6 : i < 64
    · have := h i hi h6
      have e := hiN_bit v.toNat i
      unfold bitI at this
      rw [Int.toNat_natCast] at this
      cases hb : v.toNat.testBit i
      · rfl
      · rw [hb] at e; simp at e; omega
    · exact Nat.testBit_lt_two_pow (Nat.lt_of_lt_of_le (show v.toNat < 2 ^ 64 by omega) (Nat.pow_le_pow_right (by omega) (by omega)))
  unfold onesI; omega

set_option maxHeartbeats 400000 in
theorem refPut_range (x a n v : Int) (w : World) (h0 : 0 ≤ a) (h1 : 1 ≤ n) (h2 : a + n ≤ 64) (hv0 : 0 ≤ v) (hv1 : v ≤ 18446744073709551615) (hv : onesI n < v) :
    Calls Try.prog 13 #[.int .u64 x, .int .i64 a, .int .i64 n, .int .u64 v] w fun e w' => e = .returned (.tuple #[.int .u64 0, .int .i64 2]) ∧ w' = w := by
  obtain ⟨N, hN⟩ := Int.eq_ofNat_of_zero_le (show 0 ≤ n by omega)
  have HN : Hid (n = N) := hN
  clear hN
  go_enter Try.func13, Try.ntmps13
  go_wp2_with (go_at_call 23; refine (field_yes _ _ _ h0 h1 h2).mono ?_; rintro e w' ⟨rfl, rfl⟩)
  go_loop [10] (fun i => ∃ k : Nat, n ≤ (k : Int) ∧ k ≤ 64 ∧ i = .int .i64 k ∧ ∀ t : Nat, n.toNat ≤ t → t < k → bitI v t = 0) (fun i => 64 - (intOf i).toNat)
  case atStart => exact ⟨N, by rw [HN.out]; omega, by have := HN.out; omega, by rw [HN.out], fun t ht hk => by have := HN.out; omega⟩
  case round =>
    obtain ⟨k, hk1, hk2, rfl, hall⟩ := hrel
    have HALL : Hid _ := hall
    clear hall
    by_cases hlt : k < 64
    · by_cases hz : bitI v k = 0
      · have HZ : Hid (bitI v k = 0) := hz
        have hzb : (bitI v k == 0) = true := by simp [hz]
        clear hz
        go_wp2_with (go_at_call 24; refine (bit_any v k _ hv0 hv1 (by omega) (by omega)).mono ?_; rintro e w' ⟨rfl, rfl⟩)
        go_round
        case rel => exact ⟨k + 1, by omega, by omega, by go_num, fun t ht hk => by
                      by_cases e : t = k
                      · rw [e]; exact HZ.out
                      · exact HALL.out t ht (by omega)⟩
        case measure => simp [intOf]; omega
      · go_wp2_with (go_at_call 24; refine (bit_any v k _ hv0 hv1 (by omega) (by omega)).mono ?_; rintro e w' ⟨rfl, rfl⟩)
        go_ret2
        exact ⟨rfl, rfl⟩
    · exfalso
      have := small_of_none v n hv0 hv1 (fun t ht hk => HALL.out t ht (by omega))
      omega

theorem put_round (X A N V j : Nat) (hX : X < 2 ^ 64) (hA : A + N ≤ 64) (hV : V < 2 ^ N) (hj : 1 ≤ j) (x a n v : Int) (hx : x = X) (ha : a = A) (hn : n = N) (hv : v = V) :
    2 * ((hiN (putN X A N V) j : Nat) : Int) + (if a ≤ (j : Int) - 1 ∧ (j : Int) - 1 < a + n then bitI v (j - 1 - a) else bitI x (j - 1)) = ((hiN (putN X A N V) (j - 1) : Nat) : Int) := by
  subst hx; subst ha; subst hn; subst hv
  have h := hiN_up (putN X A N V) j hj
  have e : (if (A : Int) ≤ (j : Int) - 1 ∧ (j : Int) - 1 < (A : Int) + (N : Int) then bitI V (j - 1 - A) else bitI X (j - 1)) = ((hiN (putN X A N V) (j - 1) % 2 : Nat) : Int) := by
    rw [hiN_mod, putN_bit X A N V (j - 1) hX hA hV]
    have e0 : ((j : Int) - 1).toNat = j - 1 := by omega
    by_cases hc : A ≤ j - 1 ∧ j - 1 < A + N
    · have e1 : ((j : Int) - 1 - (A : Int)).toNat = j - 1 - A := by omega
      rw [if_pos (by omega), if_pos hc]
      unfold bitI
      rw [e1, Int.toNat_natCast, hiN_mod]
    · rw [if_neg (by omega), if_neg hc]
      unfold bitI
      rw [e0, Int.toNat_natCast, hiN_mod]
  rw [e]; omega

set_option maxHeartbeats 1000000 in
theorem refPut_yes (x a n v : Int) (w : World) (hx0 : 0 ≤ x) (hx : x ≤ 18446744073709551615) (h0 : 0 ≤ a) (h1 : 1 ≤ n) (h2 : a + n ≤ 64) (hv0 : 0 ≤ v) (hv : v ≤ onesI n) :
    Calls Try.prog 13 #[.int .u64 x, .int .i64 a, .int .i64 n, .int .u64 v] w fun e w' => e = .returned (.tuple #[.int .u64 (putI x a n v), .int .i64 0]) ∧ w' = w := by
  obtain ⟨X, hX⟩ := Int.eq_ofNat_of_zero_le hx0
  obtain ⟨A, hA⟩ := Int.eq_ofNat_of_zero_le h0
  obtain ⟨N, hN⟩ := Int.eq_ofNat_of_zero_le (show 0 ≤ n by omega)
  obtain ⟨V, hV⟩ := Int.eq_ofNat_of_zero_le hv0
  have hb := onesI_bd n (by omega)
  have hV' : V < 2 ^ N := by
    have hp : 0 < 2 ^ n.toNat := Nat.two_pow_pos _
    have e : n.toNat = N := by omega
    unfold onesI at hv; rw [e] at hv hp; omega
  have HX : Hid (x = X) := hX
  have HA : Hid (a = A) := hA
  have HN : Hid (n = N) := hN
  have HV : Hid (v = V) := hV
  have hg : putN X A N V < 2 ^ 64 := putN_lt _ _ _ _ (by omega) (by omega) hV'
  have hX2 : X < 2 ^ 64 := by omega
  have HQ : Hid (V < 2 ^ N) := hV'
  clear hX hA hN hV hV'
  go_enter Try.func13, Try.ntmps13
  go_wp2_with (go_at_call 23; refine (field_yes _ _ _ h0 h1 h2).mono ?_; rintro e w' ⟨rfl, rfl⟩)
  go_loop [10] (fun i => ∃ k : Nat, n ≤ (k : Int) ∧ k ≤ 64 ∧ i = .int .i64 k) (fun i => 64 - (intOf i).toNat)
  case atStart => exact ⟨N, by rw [HN.out]; omega, by have := HN.out; omega, by rw [HN.out]⟩
  case round =>
    obtain ⟨k, hk1, hk2, rfl⟩ := hrel
    by_cases hlt : k < 64
    · have hz := none_above v n hv0 hv k (by omega)
      have hzb : (bitI v k == 0) = true := by simp [hz]
      clear hz
      go_wp2_with (go_at_call 24; refine (bit_any v k _ hv0 (by omega) (by omega) (by omega)).mono ?_; rintro e w' ⟨rfl, rfl⟩)
      go_round
      case rel => exact ⟨k + 1, by omega, by omega, by go_num⟩
      case measure => simp [intOf]; omega
    · go_wp2
      go_loop [11, 12] (fun o i => ∃ j : Nat, j ≤ 64 ∧ i = .int .i64 (j - 1) ∧ o = .int .u64 (hiN (putN X A N V) j : Nat)) (fun _ i => (intOf i + 1).toNat)
      case atStart => exact ⟨64, Nat.le_refl _, rfl, by rw [hiN_none _ _ hg]; rfl⟩
      case round =>
        obtain ⟨j, hj, rfl, rfl⟩ := hrel
        by_cases hlt2 : 1 ≤ j
        · have hbb := hiN_half (putN X A N V) j hg hlt2
          have HR : Hid _ := put_round X A N V j hX2 (by have := HN.out; have := HA.out; omega) HQ.out hlt2 x a n v HX.out HA.out HN.out HV.out
          have hc1 := bitI_bd x (j - 1)
          have hc2 := bitI_bd v (j - 1 - a)
          by_cases hq1 : a ≤ (j : Int) - 1
          · by_cases hq2 : (j : Int) - 1 < a + n
            · go_wp2_with fail
              refine (bit_any x (j - 1) _ hx0 hx (by omega) (by omega)).mono ?_
              rintro e w' ⟨rfl, rfl⟩
              go_wp2_with fail
              refine (bit_any v (j - 1 - a) _ hv0 (by omega) (by omega) (by omega)).mono ?_
              rintro e w' ⟨rfl, rfl⟩
              go_wp2
              go_round
              case rel => exact ⟨j - 1, by omega, by go_num, by rw [← HR.out, if_pos ⟨hq1, hq2⟩]⟩
              case measure => simp [intOf]; omega
            · go_wp2_with fail
              refine (bit_any x (j - 1) _ hx0 hx (by omega) (by omega)).mono ?_
              rintro e w' ⟨rfl, rfl⟩
              go_wp2
              go_round
              case rel => exact ⟨j - 1, by omega, by go_num, by rw [← HR.out, if_neg (by omega)]⟩
              case measure => simp [intOf]; omega
          · go_wp2_with fail
            refine (bit_any x (j - 1) _ hx0 hx (by omega) (by omega)).mono ?_
            rintro e w' ⟨rfl, rfl⟩
            go_wp2
            go_round
            case rel => exact ⟨j - 1, by omega, by go_num, by rw [← HR.out, if_neg (by omega)]⟩
            case measure => simp [intOf]; omega
        · have e : j = 0 := by omega
          subst e
          go_wp2
          go_ret2
          exact ⟨ret_pair (by rw [hiN_zero]; unfold putI; rw [HX.out, HA.out, HN.out, HV.out]; simp), rfl⟩

end Go.Proofs.Ytbalicoebnplmaa
