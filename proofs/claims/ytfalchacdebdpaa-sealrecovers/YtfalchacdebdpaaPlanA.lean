/- Contracts of What (the program's and the document's), Open, Size, and the first word of a log, for every number; they change nothing in memory. -/
import Derived.Test.YtfalchacdebdpaaOps
import Derived.WalkKit
import Derived.WalkLawsBesides
namespace Go.Proofs.Ytfalchacdebdpaa
open Go.RowKit

theorem ret_two {k l : IntKind} {a b c d : Int} (h : a = b) (h' : c = d) : Ending.returned (.tuple #[.int k a, .int l c]) = .returned (.tuple #[.int k b, .int l d]) := by rw [h, h']

/-- The kind of a word, as a number. -/
def kindI (a : Int) : Int := if a < 0 then 0 else if 2824 ≤ a then 0 else if a < 8 then 1 else if a < 200 then 2 else if a < 296 then 3 else if a < 1288 then 4 else 5
/-- Which thing of that kind. -/
def numI (a : Int) : Int := if a < 0 then 0 else if 2824 ≤ a then 0 else if a < 8 then 0 else if a < 200 then (a - 8) / 8 else if a < 296 then a - 200 else if a < 1288 then (a - 296) / 248 else (a - 1288) / 16

theorem ki_neg {a : Int} (h : a < 0) : kindI a = 0 ∧ numI a = 0 := by unfold kindI numI; simp [h]
theorem ki_far {a : Int} (h : 2824 ≤ a) : kindI a = 0 ∧ numI a = 0 := by
  have e : ¬ a < 0 := by omega
  unfold kindI numI; simp [h, e]
theorem ki_head {a : Int} (h0 : 0 ≤ a) (h : a < 8) : kindI a = 1 ∧ numI a = 0 := by
  have e0 : ¬ a < 0 := by omega
  have e1 : ¬ 2824 ≤ a := by omega
  unfold kindI numI; simp [h, e0, e1]
theorem ki_card {a : Int} (h0 : 8 ≤ a) (h : a < 200) : kindI a = 2 ∧ numI a = (a - 8) / 8 := by
  have e0 : ¬ a < 0 := by omega
  have e1 : ¬ 2824 ≤ a := by omega
  have e2 : ¬ a < 8 := by omega
  unfold kindI numI; simp [h, e0, e1, e2]
theorem ki_owner {a : Int} (h0 : 200 ≤ a) (h : a < 296) : kindI a = 3 ∧ numI a = a - 200 := by
  have e0 : ¬ a < 0 := by omega
  have e1 : ¬ 2824 ≤ a := by omega
  have e2 : ¬ a < 8 := by omega
  have e3 : ¬ a < 200 := by omega
  unfold kindI numI; simp [h, e0, e1, e2, e3]
theorem ki_log {a : Int} (h0 : 296 ≤ a) (h : a < 1288) : kindI a = 4 ∧ numI a = (a - 296) / 248 := by
  have e0 : ¬ a < 0 := by omega
  have e1 : ¬ 2824 ≤ a := by omega
  have e2 : ¬ a < 8 := by omega
  have e3 : ¬ a < 200 := by omega
  have e4 : ¬ a < 296 := by omega
  unfold kindI numI; simp [h, e0, e1, e2, e3, e4]
theorem ki_data {a : Int} (h0 : 1288 ≤ a) (h : a < 2824) : kindI a = 5 ∧ numI a = (a - 1288) / 16 := by
  have e0 : ¬ a < 0 := by omega
  have e1 : ¬ 2824 ≤ a := by omega
  have e2 : ¬ a < 8 := by omega
  have e3 : ¬ a < 200 := by omega
  have e4 : ¬ a < 296 := by omega
  have e5 : ¬ a < 1288 := by omega
  unfold kindI numI; simp [e0, e1, e2, e3, e4, e5]

/-- The seven places a word may have. -/
theorem places (a : Int) : a < 0 ∨ 2824 ≤ a ∨ (0 ≤ a ∧ a < 8) ∨ (8 ≤ a ∧ a < 200) ∨ (200 ≤ a ∧ a < 296) ∨ (296 ≤ a ∧ a < 1288) ∨ (1288 ≤ a ∧ a < 2824) := by omega

set_option maxHeartbeats 1000000 in
theorem what_any (a : Int) (w : World) :
    Calls Try.prog 55 #[.int .i64 a] w fun e w' => e = .returned (.tuple #[.int .i64 (kindI a), .int .i64 (numI a)]) ∧ w' = w := by
  rcases places a with h | h | ⟨h, h'⟩ | ⟨h, h'⟩ | ⟨h, h'⟩ | ⟨h, h'⟩ | ⟨h, h'⟩
  · rw [(ki_neg h).1, (ki_neg h).2]
    go_enter Try.func55, Try.ntmps55
    go_wp2
    go_ret2
    exact ⟨rfl, rfl⟩
  · have g : ¬ a < 0 := by omega
    rw [(ki_far h).1, (ki_far h).2]
    go_enter Try.func55, Try.ntmps55
    go_wp2
    go_ret2
    exact ⟨rfl, rfl⟩
  · rw [(ki_head h h').1, (ki_head h h').2]
    go_enter Try.func55, Try.ntmps55
    go_wp2
    go_ret2
    exact ⟨rfl, rfl⟩
  · rw [(ki_card h h').1, (ki_card h h').2]
    go_enter Try.func55, Try.ntmps55
    go_wp2
    go_ret2
    exact ⟨rfl, rfl⟩
  · rw [(ki_owner h h').1, (ki_owner h h').2]
    go_enter Try.func55, Try.ntmps55
    go_wp2
    go_ret2
    exact ⟨rfl, rfl⟩
  · rw [(ki_log h h').1, (ki_log h h').2]
    go_enter Try.func55, Try.ntmps55
    go_wp2
    go_ret2
    exact ⟨rfl, rfl⟩
  · rw [(ki_data h h').1, (ki_data h h').2]
    go_enter Try.func55, Try.ntmps55
    go_wp2
    go_ret2
    exact ⟨rfl, rfl⟩

set_option maxHeartbeats 1000000 in
theorem refWhat_any (a : Int) (w : World) :
    Calls Try.prog 50 #[.int .i64 a] w fun e w' => e = .returned (.tuple #[.int .i64 (kindI a), .int .i64 (numI a)]) ∧ w' = w := by
  rcases places a with h | h | ⟨h, h'⟩ | ⟨h, h'⟩ | ⟨h, h'⟩ | ⟨h, h'⟩ | ⟨h, h'⟩
  · rw [(ki_neg h).1, (ki_neg h).2]
    go_enter Try.func50, Try.ntmps50
    go_wp2
    go_ret2
    exact ⟨rfl, rfl⟩
  · have g : ¬ a < 0 := by omega
    rw [(ki_far h).1, (ki_far h).2]
    go_enter Try.func50, Try.ntmps50
    go_wp2
    go_ret2
    exact ⟨rfl, rfl⟩
  · rw [(ki_head h h').1, (ki_head h h').2]
    go_enter Try.func50, Try.ntmps50
    go_wp2
    go_ret2
    exact ⟨rfl, rfl⟩
  · rw [(ki_card h h').1, (ki_card h h').2]
    go_enter Try.func50, Try.ntmps50
    go_wp2
    go_ret2
    exact ⟨rfl, rfl⟩
  · rw [(ki_owner h h').1, (ki_owner h h').2]
    go_enter Try.func50, Try.ntmps50
    go_wp2
    go_ret2
    exact ⟨rfl, rfl⟩
  · rw [(ki_log h h').1, (ki_log h h').2]
    go_enter Try.func50, Try.ntmps50
    go_wp2
    go_ret2
    exact ⟨rfl, rfl⟩
  · rw [(ki_data h h').1, (ki_data h h').2]
    go_enter Try.func50, Try.ntmps50
    go_wp2
    go_ret2
    exact ⟨rfl, rfl⟩

/-- May a change name the word? -/
def openB (a : Int) : Bool := kindI a == 2 || kindI a == 3 || kindI a == 5

theorem kind_cases (a : Int) : kindI a = 0 ∨ kindI a = 1 ∨ kindI a = 2 ∨ kindI a = 3 ∨ kindI a = 4 ∨ kindI a = 5 := by
  rcases places a with h | h | ⟨h, h'⟩ | ⟨h, h'⟩ | ⟨h, h'⟩ | ⟨h, h'⟩ | ⟨h, h'⟩
  · exact .inl (ki_neg h).1
  · exact .inl (ki_far h).1
  · exact .inr (.inl (ki_head h h').1)
  · exact .inr (.inr (.inl (ki_card h h').1))
  · exact .inr (.inr (.inr (.inl (ki_owner h h').1)))
  · exact .inr (.inr (.inr (.inr (.inl (ki_log h h').1))))
  · exact .inr (.inr (.inr (.inr (.inr (ki_data h h').1))))

set_option maxHeartbeats 1000000 in
theorem open_any (a : Int) (w : World) :
    Calls Try.prog 38 #[.int .i64 a] w fun e w' => e = .returned (.bool (openB a)) ∧ w' = w := by
  obtain ⟨b, hb⟩ : ∃ b, openB a = b := ⟨_, rfl⟩
  have HB : Hid (openB a = b) := hb
  rw [hb]
  clear hb
  have H : Hid (Calls Try.prog 55 #[.int .i64 a] w fun e w' => e = .returned (.tuple #[.int .i64 (kindI a), .int .i64 (numI a)]) ∧ w' = w) := what_any a w
  rcases kind_cases a with h | h | h | h | h | h
  · rw [h] at H
    have HB' : Hid (false = b) := by rw [← HB.out]; unfold openB; rw [h]; rfl
    clear h HB
    go_enter Try.func38, Try.ntmps38
    go_wp2_with fail
    refine Calls.mono (Hid.out H) ?_
    rintro e w' ⟨rfl, rfl⟩
    go_wp2
    go_ret
    exact ⟨ret_bool HB'.out, rfl⟩
  · rw [h] at H
    have HB' : Hid (false = b) := by rw [← HB.out]; unfold openB; rw [h]; rfl
    clear h HB
    go_enter Try.func38, Try.ntmps38
    go_wp2_with fail
    refine Calls.mono (Hid.out H) ?_
    rintro e w' ⟨rfl, rfl⟩
    go_wp2
    go_ret
    exact ⟨ret_bool HB'.out, rfl⟩
  · rw [h] at H
    have HB' : Hid (true = b) := by rw [← HB.out]; unfold openB; rw [h]; rfl
    clear h HB
    go_enter Try.func38, Try.ntmps38
    go_wp2_with fail
    refine Calls.mono (Hid.out H) ?_
    rintro e w' ⟨rfl, rfl⟩
    go_wp2
    go_ret
    exact ⟨ret_bool HB'.out, rfl⟩
  · rw [h] at H
    have HB' : Hid (true = b) := by rw [← HB.out]; unfold openB; rw [h]; rfl
    clear h HB
    go_enter Try.func38, Try.ntmps38
    go_wp2_with fail
    refine Calls.mono (Hid.out H) ?_
    rintro e w' ⟨rfl, rfl⟩
    go_wp2
    go_ret
    exact ⟨ret_bool HB'.out, rfl⟩
  · rw [h] at H
    have HB' : Hid (false = b) := by rw [← HB.out]; unfold openB; rw [h]; rfl
    clear h HB
    go_enter Try.func38, Try.ntmps38
    go_wp2_with fail
    refine Calls.mono (Hid.out H) ?_
    rintro e w' ⟨rfl, rfl⟩
    go_wp2
    go_ret
    exact ⟨ret_bool HB'.out, rfl⟩
  · rw [h] at H
    have HB' : Hid (true = b) := by rw [← HB.out]; unfold openB; rw [h]; rfl
    clear h HB
    go_enter Try.func38, Try.ntmps38
    go_wp2_with fail
    refine Calls.mono (Hid.out H) ?_
    rintro e w' ⟨rfl, rfl⟩
    go_wp2
    go_ret
    exact ⟨ret_bool HB'.out, rfl⟩

set_option maxHeartbeats 1000000 in
theorem refOpen_any (a : Int) (w : World) :
    Calls Try.prog 25 #[.int .i64 a] w fun e w' => e = .returned (.bool (openB a)) ∧ w' = w := by
  obtain ⟨b, hb⟩ : ∃ b, openB a = b := ⟨_, rfl⟩
  have HB : Hid (openB a = b) := hb
  rw [hb]
  clear hb
  have H : Hid (Calls Try.prog 50 #[.int .i64 a] w fun e w' => e = .returned (.tuple #[.int .i64 (kindI a), .int .i64 (numI a)]) ∧ w' = w) := refWhat_any a w
  rcases kind_cases a with h | h | h | h | h | h
  · rw [h] at H
    have HB' : Hid (false = b) := by rw [← HB.out]; unfold openB; rw [h]; rfl
    clear h HB
    go_enter Try.func25, Try.ntmps25
    go_wp2_with fail
    refine Calls.mono (Hid.out H) ?_
    rintro e w' ⟨rfl, rfl⟩
    go_wp2
    go_ret
    exact ⟨ret_bool HB'.out, rfl⟩
  · rw [h] at H
    have HB' : Hid (false = b) := by rw [← HB.out]; unfold openB; rw [h]; rfl
    clear h HB
    go_enter Try.func25, Try.ntmps25
    go_wp2_with fail
    refine Calls.mono (Hid.out H) ?_
    rintro e w' ⟨rfl, rfl⟩
    go_wp2
    go_ret
    exact ⟨ret_bool HB'.out, rfl⟩
  · rw [h] at H
    have HB' : Hid (true = b) := by rw [← HB.out]; unfold openB; rw [h]; rfl
    clear h HB
    go_enter Try.func25, Try.ntmps25
    go_wp2_with fail
    refine Calls.mono (Hid.out H) ?_
    rintro e w' ⟨rfl, rfl⟩
    go_wp2
    go_ret
    exact ⟨ret_bool HB'.out, rfl⟩
  · rw [h] at H
    have HB' : Hid (true = b) := by rw [← HB.out]; unfold openB; rw [h]; rfl
    clear h HB
    go_enter Try.func25, Try.ntmps25
    go_wp2_with fail
    refine Calls.mono (Hid.out H) ?_
    rintro e w' ⟨rfl, rfl⟩
    go_wp2
    go_ret
    exact ⟨ret_bool HB'.out, rfl⟩
  · rw [h] at H
    have HB' : Hid (false = b) := by rw [← HB.out]; unfold openB; rw [h]; rfl
    clear h HB
    go_enter Try.func25, Try.ntmps25
    go_wp2_with fail
    refine Calls.mono (Hid.out H) ?_
    rintro e w' ⟨rfl, rfl⟩
    go_wp2
    go_ret
    exact ⟨ret_bool HB'.out, rfl⟩
  · rw [h] at H
    have HB' : Hid (true = b) := by rw [← HB.out]; unfold openB; rw [h]; rfl
    clear h HB
    go_enter Try.func25, Try.ntmps25
    go_wp2_with fail
    refine Calls.mono (Hid.out H) ?_
    rintro e w' ⟨rfl, rfl⟩
    go_wp2
    go_ret
    exact ⟨ret_bool HB'.out, rfl⟩

theorem planSize_any (w : World) : Calls Try.prog 76 #[] w fun e w' => e = .returned (.int .i64 2824) ∧ w' = w := by
  go_enter Try.func76, Try.ntmps76
  go_wp2
  go_ret
  exact ⟨rfl, rfl⟩

theorem log_first (k : Int) (w : World) (h0 : 0 ≤ k) (h1 : k < 4) :
    Calls Try.prog 52 #[.int .i64 296, .int .i64 248, .int .i64 4, .int .i64 k] w fun e w' => e = .returned (.tuple #[.int .i64 (296 + 248 * k), .int .i64 0]) ∧ w' = w := by
  go_enter Try.func52, Try.ntmps52
  go_wp2
  go_ret2
  exact ⟨rfl, rfl⟩
theorem log_yes (k : Int) (w : World) (h0 : 0 ≤ k) (h1 : k < 4) :
    Calls Try.prog 29 #[.int .i64 k] w fun e w' => e = .returned (.tuple #[.int .i64 (296 + 248 * k), .int .i64 0]) ∧ w' = w := by
  go_enter Try.func29, Try.ntmps29
  go_wp2_with (go_at_call 52; refine (log_first k _ h0 h1).mono ?_; rintro e w' ⟨rfl, rfl⟩)
  go_ret2
  exact ⟨rfl, rfl⟩
theorem log_nofirst (k : Int) (w : World) (h : k < 0 ∨ 4 ≤ k) :
    Calls Try.prog 52 #[.int .i64 296, .int .i64 248, .int .i64 4, .int .i64 k] w fun e w' => e = .returned (.tuple #[.int .i64 0, .int .i64 1]) ∧ w' = w := by
  rcases h with h | h
  · go_enter Try.func52, Try.ntmps52
    go_wp2
    go_ret2
    exact ⟨rfl, rfl⟩
  · have h' : ¬ k < 0 := by omega
    go_enter Try.func52, Try.ntmps52
    go_wp2
    go_ret2
    exact ⟨rfl, rfl⟩
theorem log_no (k : Int) (w : World) (h : k < 0 ∨ 4 ≤ k) :
    Calls Try.prog 29 #[.int .i64 k] w fun e w' => e = .returned (.tuple #[.int .i64 0, .int .i64 1]) ∧ w' = w := by
  have H : Hid (k < 0 ∨ 4 ≤ k) := h
  clear h
  go_enter Try.func29, Try.ntmps29
  go_wp2_with (go_at_call 52; refine (log_nofirst k _ H.out).mono ?_; rintro e w' ⟨rfl, rfl⟩)
  go_ret2
  exact ⟨rfl, rfl⟩

end Go.Proofs.Ytfalchacdebdpaa
