/- Contracts of the bytes and names that may be (names.listed, names.Right and the document's Right), of Hash and Bucket and the document's: each answers one value and leaves memory as it was. -/
import Derived.Test.YtlpikfebbfcofaaDoorProg
import Derived.Test.YtlpikfebbfcofaaDoorMath
import Derived.WalkKit
namespace Go.Proofs.YtlpikfebbfcofaaDoor
open Go.RowKit

theorem ret_int {k : IntKind} {a b : Int} (h : a = b) : Ending.returned (.int k a) = .returned (.int k b) := by rw [h]
theorem ret_bool {a b : Bool} (h : a = b) : Ending.returned (.bool a) = .returned (.bool b) := by rw [h]

theorem listed_any (c : Nat) (w : World) :
    Calls Tryd.prog 25 #[.int .u8 (c : Nat)] w fun e w' => e = .returned (.bool (okb c)) ∧ w' = w := by
  go_enter Tryd.func25, Tryd.ntmps25
  go_wp2
  all_goals
    go_ret
    refine ⟨ret_bool ?_, rfl⟩
    rw [Bool.eq_iff_iff]; simp [okb]; omega

/- how the walk compares two texts -/
theorem tl_eq {s : ByteArray} {l : List UInt8} (h : ls s = l) : (s.toList == l) = true := by rw [ByteArray.toList_eq]; simpa using h
theorem tl_ne {s : ByteArray} {l : List UInt8} (h : ¬ ls s = l) : (s.toList == l) = false := by rw [ByteArray.toList_eq]; simpa using h
theorem tl_ne' {s : ByteArray} {l : List UInt8} (h : ¬ ls s = l) : ¬ s.toList = l := by rw [ByteArray.toList_eq]; exact h
theorem tl_eq' {s : ByteArray} {l : List UInt8} (h : ls s = l) : s.toList = l := by rw [ByteArray.toList_eq]; exact h

/-- the first k bytes are ones that a name may have -/
def oks (s : ByteArray) (k : Nat) : Bool := ((ls s).take k).all (fun b => okb b.toNat)
theorem oks_zero (s : ByteArray) : oks s 0 = true := rfl
theorem oks_succ (s : ByteArray) (k : Nat) (h : k < s.size) : oks s (k + 1) = (oks s k && okb s[k].toNat) := by
  unfold oks
  rw [List.take_succ_eq_append_getElem (by simpa using h), List.all_append]
  simp [ls]; rfl
theorem oks_mono (s : ByteArray) (k : Nat) (h : oks s k = false) : (ls s).all (fun b => okb b.toNat) = false := by
  rw [← List.take_append_drop k (ls s), List.all_append]
  unfold oks at h
  rw [h]; rfl
theorem oks_all (s : ByteArray) : oks s s.size = (ls s).all (fun b => okb b.toNat) := by
  unfold oks
  rw [List.take_of_length_le (by simp)]

def R (s : ByteArray) : Bool := rt (ls s)
theorem R_short (s : ByteArray) (h : s.size < 1) : R s = false := by
  unfold R rt; rw [ls_size]; simp; omega
theorem R_long (s : ByteArray) (h : 14 < s.size) : R s = false := by
  unfold R rt; rw [ls_size]; simp; omega
theorem R_dot (s : ByteArray) (h : ls s = [46]) : R s = false := by unfold R; rw [h]; decide
theorem R_dots (s : ByteArray) (h : ls s = [46, 46]) : R s = false := by unfold R; rw [h]; decide
theorem R_off (s : ByteArray) (k : Nat) (h : oks s k = false) : R s = false := by
  unfold R rt; rw [oks_mono s k h]; simp
theorem R_on (s : ByteArray) (h1 : 1 ≤ s.size) (h2 : s.size ≤ 14) (h3 : ¬ ls s = [46]) (h4 : ¬ ls s = [46, 46]) (h : oks s s.size = true) : R s = true := by
  unfold R rt; rw [← oks_all, h, ls_size]
  simp [h1, h2, h3, h4]

set_option maxHeartbeats 1000000 in
theorem right_any (s : ByteArray) (w : World) (hs : s.size ≤ maxLen) :
    Calls Tryd.prog 11 #[.string s] w fun e w' => e = .returned (.bool (R s)) ∧ w' = w := by
  unfold maxLen at hs
  by_cases c1 : s.size < 1
  · rw [R_short s c1]
    have c1' : (s.size : Int) < 1 := by omega
    go_enter Tryd.func11, Tryd.ntmps11
    go_wp2
    go_ret
    exact ⟨rfl, rfl⟩
  by_cases c2 : 14 < s.size
  · rw [R_long s c2]
    go_enter Tryd.func11, Tryd.ntmps11
    go_wp2
    go_ret
    exact ⟨rfl, rfl⟩
  by_cases c3 : ls s = [46]
  · rw [R_dot s c3]
    have e3 := tl_eq' c3
    clear c3
    go_enter Tryd.func11, Tryd.ntmps11
    go_wp2
    go_ret
    exact ⟨rfl, rfl⟩
  by_cases c4 : ls s = [46, 46]
  · rw [R_dots s c4]
    have e4 := tl_eq' c4
    clear c3 c4
    go_enter Tryd.func11, Tryd.ntmps11
    go_wp2
    go_ret
    exact ⟨rfl, rfl⟩
  have e3 := tl_ne' c3
  have e4 := tl_ne' c4
  have f3 := tl_ne c3
  have f4 := tl_ne c4
  have H3 : Hid (¬ ls s = [46]) := c3
  have H4 : Hid (¬ ls s = [46, 46]) := c4
  clear c3 c4
  go_enter Tryd.func11, Tryd.ntmps11
  go_wp2
  go_loop [3, 22] (fun _ i => ∃ k : Nat, k ≤ s.size ∧ i = .int .i64 k ∧ Hid (oks s k = true)) (fun _ i => s.size - (intOf i).toNat)
  case atStart => exact ⟨0, Nat.zero_le _, rfl, oks_zero s⟩
  case round =>
    obtain ⟨k, hk, rfl, H⟩ := hrel
    by_cases hlt : k < s.size
    · have hn := oks_succ s k hlt
      rw [H.out, Bool.true_and] at hn
      have HN : Hid (oks s (k + 1) = okb s[k].toNat) := hn
      clear hn
      by_cases hb : okb s[k].toNat = true
      · go_wp2_with (go_at_call 25; refine (listed_any _ _).mono ?_; rintro e w' ⟨rfl, rfl⟩)
        go_round
        case rel => exact ⟨k + 1, by omega, by go_num, by rw [HN.out]; exact hb⟩
        case measure => simp [intOf]; omega
      · have hb' : okb s[k].toNat = false := by simpa using hb
        go_wp2_with (go_at_call 25; refine (listed_any _ _).mono ?_; rintro e w' ⟨rfl, rfl⟩)
        go_ret
        exact ⟨ret_bool (R_off s (k + 1) (by rw [HN.out]; exact hb')).symm, rfl⟩
    · obtain rfl : k = s.size := by omega
      go_wp2
      go_ret
      exact ⟨ret_bool (R_on s (by omega) (by omega) H3.out H4.out H.out).symm, rfl⟩
theorem class_of (c : Nat) : (97 ≤ c ∧ c ≤ 122) ∨ (122 < c) ∨ (48 ≤ c ∧ c ≤ 57) ∨ (c = 95) ∨ (57 < c ∧ c < 97 ∧ ¬ c = 95) ∨ (c = 46) ∨ (c = 45) ∨ (c < 48 ∧ ¬ c = 46 ∧ ¬ c = 45) := by omega

theorem R_end (s : ByteArray) (h : oks s s.size = true) : R s = (decide (1 ≤ s.size) && decide (s.size ≤ 14) && !(ls s == [46]) && !(ls s == [46, 46])) := by
  unfold R rt; rw [← oks_all, h, ls_size, Bool.and_true]

set_option maxHeartbeats 4000000 in
theorem refRight_any (s : ByteArray) (w : World) (hs : s.size ≤ maxLen) :
    Calls Tryd.prog 12 #[.string s] w fun e w' => e = .returned (.bool (R s)) ∧ w' = w := by
  unfold maxLen at hs
  go_enter Tryd.func12, Tryd.ntmps12
  go_wp2
  go_loop [3, 4] (fun i _ => ∃ k : Nat, k ≤ s.size ∧ i = .int .i64 k ∧ Hid (oks s k = true)) (fun i _ => s.size - (intOf i).toNat)
  case atStart => exact ⟨0, Nat.zero_le _, rfl, oks_zero s⟩
  case round =>
    obtain ⟨k, hk, rfl, H⟩ := hrel
    by_cases hlt : k < s.size
    · have hn := oks_succ s k hlt
      rw [H.out, Bool.true_and] at hn
      have HN : Hid (oks s (k + 1) = okb s[k].toNat) := hn
      clear hn
      rcases class_of s[k].toNat with hc | hc | hc | hc | hc | hc | hc | hc
      · have f0 : 97 ≤ (s[k].toNat : Int) := by omega
        have f1 : (s[k].toNat : Int) ≤ 122 := by omega
        have HC : Hid _ := hc
        clear hc
        go_wp2
        have hc := HC.out
        go_round
        case rel => exact ⟨k + 1, by omega, by go_num, by show oks s (k + 1) = true; rw [HN.out]; simp only [okb, Bool.or_eq_true, Bool.and_eq_true, decide_eq_true_eq, beq_iff_eq]; omega⟩
        case measure => simp [intOf]; omega
      · have f0 : 97 ≤ (s[k].toNat : Int) := by omega
        have f1 : 122 < (s[k].toNat : Int) := by omega
        have f2 : 48 ≤ (s[k].toNat : Int) := by omega
        have f3 : 57 < (s[k].toNat : Int) := by omega
        have f12 : decide ((s[k].toNat : Int) ≤ 57) = false := by simp; omega
        have f13 : decide ((s[k].toNat : Int) ≤ 122) = false := by simp; omega
        have f4 : ¬ (s[k].toNat : Int) = 46 := by omega
        have f5 : ¬ (s[k].toNat : Int) = 45 := by omega
        have f6 : ¬ (s[k].toNat : Int) = 95 := by omega
        have f9 : ((s[k].toNat : Int) != 95) = true := by simp; omega
        have f10 : ((s[k].toNat : Int) != 46) = true := by simp; omega
        have f11 : ((s[k].toNat : Int) != 45) = true := by simp; omega
        have HC : Hid _ := hc
        clear hc
        go_wp2
        have hc := HC.out
        go_ret
        refine ⟨ret_bool (R_off s (k + 1) ?_).symm, rfl⟩
        rw [HN.out, Bool.eq_false_iff]; simp only [okb, ne_eq, Bool.or_eq_true, Bool.and_eq_true, decide_eq_true_eq, beq_iff_eq]; omega
      · have f0 : (s[k].toNat : Int) < 97 := by omega
        have f1 : 48 ≤ (s[k].toNat : Int) := by omega
        have f2 : (s[k].toNat : Int) ≤ 57 := by omega
        have HC : Hid _ := hc
        clear hc
        go_wp2
        have hc := HC.out
        go_round
        case rel => exact ⟨k + 1, by omega, by go_num, by show oks s (k + 1) = true; rw [HN.out]; simp only [okb, Bool.or_eq_true, Bool.and_eq_true, decide_eq_true_eq, beq_iff_eq]; omega⟩
        case measure => simp [intOf]; omega
      · have f0 : (s[k].toNat : Int) = 95 := by omega
        have HC : Hid _ := hc
        clear hc
        go_wp2
        have hc := HC.out
        go_round
        case rel => exact ⟨k + 1, by omega, by go_num, by show oks s (k + 1) = true; rw [HN.out]; simp only [okb, Bool.or_eq_true, Bool.and_eq_true, decide_eq_true_eq, beq_iff_eq]; omega⟩
        case measure => simp [intOf]; omega
      · have f0 : (s[k].toNat : Int) < 97 := by omega
        have f1 : 48 ≤ (s[k].toNat : Int) := by omega
        have f2 : 57 < (s[k].toNat : Int) := by omega
        have f12 : decide ((s[k].toNat : Int) ≤ 57) = false := by simp; omega
        have f3 : ¬ (s[k].toNat : Int) = 46 := by omega
        have f4 : ¬ (s[k].toNat : Int) = 45 := by omega
        have f5 : ¬ (s[k].toNat : Int) = 95 := by omega
        have f9 : ((s[k].toNat : Int) != 95) = true := by simp; omega
        have f10 : ((s[k].toNat : Int) != 46) = true := by simp; omega
        have f11 : ((s[k].toNat : Int) != 45) = true := by simp; omega
        have HC : Hid _ := hc
        clear hc
        go_wp2
        have hc := HC.out
        go_ret
        refine ⟨ret_bool (R_off s (k + 1) ?_).symm, rfl⟩
        rw [HN.out, Bool.eq_false_iff]; simp only [okb, ne_eq, Bool.or_eq_true, Bool.and_eq_true, decide_eq_true_eq, beq_iff_eq]; omega
      · have f0 : (s[k].toNat : Int) = 46 := by omega
        have HC : Hid _ := hc
        clear hc
        go_wp2
        have hc := HC.out
        go_round
        case rel => exact ⟨k + 1, by omega, by go_num, by show oks s (k + 1) = true; rw [HN.out]; simp only [okb, Bool.or_eq_true, Bool.and_eq_true, decide_eq_true_eq, beq_iff_eq]; omega⟩
        case measure => simp [intOf]; omega
      · have f0 : (s[k].toNat : Int) = 45 := by omega
        have HC : Hid _ := hc
        clear hc
        go_wp2
        have hc := HC.out
        go_round
        case rel => exact ⟨k + 1, by omega, by go_num, by show oks s (k + 1) = true; rw [HN.out]; simp only [okb, Bool.or_eq_true, Bool.and_eq_true, decide_eq_true_eq, beq_iff_eq]; omega⟩
        case measure => simp [intOf]; omega
      · have f0 : (s[k].toNat : Int) < 97 := by omega
        have f1 : (s[k].toNat : Int) < 48 := by omega
        have f2 : ¬ (s[k].toNat : Int) = 46 := by omega
        have f3 : ¬ (s[k].toNat : Int) = 45 := by omega
        have f4 : ¬ (s[k].toNat : Int) = 95 := by omega
        have f9 : ((s[k].toNat : Int) != 95) = true := by simp; omega
        have f10 : ((s[k].toNat : Int) != 46) = true := by simp; omega
        have f11 : ((s[k].toNat : Int) != 45) = true := by simp; omega
        have HC : Hid _ := hc
        clear hc
        go_wp2
        have hc := HC.out
        go_ret
        refine ⟨ret_bool (R_off s (k + 1) ?_).symm, rfl⟩
        rw [HN.out, Bool.eq_false_iff]; simp only [okb, ne_eq, Bool.or_eq_true, Bool.and_eq_true, decide_eq_true_eq, beq_iff_eq]; omega
    · obtain rfl : k = s.size := by omega
      by_cases c1 : s.size < 1
      · have E : Hid (R s = false) := R_short s c1
        have c1' : (s.size : Int) < 1 := by omega
        go_wp2
        go_ret
        exact ⟨ret_bool E.out.symm, rfl⟩
      by_cases c2 : 14 < s.size
      · have E : Hid (R s = false) := R_long s c2
        go_wp2
        go_ret
        exact ⟨ret_bool E.out.symm, rfl⟩
      by_cases c3 : ls s = [46]
      · have E : Hid (R s = false) := R_dot s c3
        have e3 := tl_eq' c3
        clear c3
        go_wp2
        go_ret
        exact ⟨ret_bool E.out.symm, rfl⟩
      by_cases c4 : ls s = [46, 46]
      · have E : Hid (R s = false) := R_dots s c4
        have e3 := tl_ne' c3
        have e4 := tl_eq' c4
        clear c3 c4
        go_wp2
        go_ret
        exact ⟨ret_bool E.out.symm, rfl⟩
      have E : Hid (R s = true) := R_on s (by omega) (by omega) c3 c4 H.out
      have e3 := tl_ne' c3
      have e4 := tl_ne' c4
      have f3 := tl_ne c3
      have f4 := tl_ne c4
      clear c3 c4
      go_wp2
      go_ret
      exact ⟨ret_bool (by rw [E.out]), rfl⟩
end Go.Proofs.YtlpikfebbfcofaaDoor
