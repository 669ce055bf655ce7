/- Contracts of the document's What and Open. -/
import Derived.Test.YtomlbifplliakaaGreatPlA
namespace Go.Proofs.YtomlbifplliakaaGreat
open Go.RowKit

set_option maxHeartbeats 1000000 in
theorem refWhat_any (a : Int) (w : World) :
    Calls Tryz.prog 71 #[.int .i64 a] w fun e w' => e = .returned (.tuple #[.int .i64 (kindI a), .int .i64 (numI a)]) ∧ w' = w := by
  rcases places a with h | h | ⟨h, h'⟩ | ⟨h, h'⟩ | ⟨h, h'⟩ | ⟨h, h'⟩ | ⟨h, h'⟩
  · rw [(ki_neg h).1, (ki_neg h).2]
    go_enter Tryz.func71, Tryz.ntmps71
    go_wp2
    go_ret2
    exact ⟨rfl, rfl⟩
  · have g : ¬ a < 0 := by omega
    rw [(ki_far h).1, (ki_far h).2]
    go_enter Tryz.func71, Tryz.ntmps71
    go_wp2
    go_ret2
    exact ⟨rfl, rfl⟩
  · rw [(ki_head h h').1, (ki_head h h').2]
    go_enter Tryz.func71, Tryz.ntmps71
    go_wp2
    go_ret2
    exact ⟨rfl, rfl⟩
  · rw [(ki_card h h').1, (ki_card h h').2]
    go_enter Tryz.func71, Tryz.ntmps71
    go_wp2
    go_ret2
    exact ⟨rfl, rfl⟩
  · rw [(ki_owner h h').1, (ki_owner h h').2]
    go_enter Tryz.func71, Tryz.ntmps71
    go_wp2
    go_ret2
    exact ⟨rfl, rfl⟩
  · rw [(ki_log h h').1, (ki_log h h').2]
    go_enter Tryz.func71, Tryz.ntmps71
    go_wp2
    go_ret2
    exact ⟨rfl, rfl⟩
  · rw [(ki_data h h').1, (ki_data h h').2]
    go_enter Tryz.func71, Tryz.ntmps71
    go_wp2
    go_ret2
    exact ⟨rfl, rfl⟩

set_option maxHeartbeats 1000000 in
theorem refOpen_any (a : Int) (w : World) :
    Calls Tryz.prog 55 #[.int .i64 a] w fun e w' => e = .returned (.bool (openB a)) ∧ w' = w := by
  obtain ⟨b, hb⟩ : ∃ b, openB a = b := ⟨_, rfl⟩
  have HB : Hid (openB a = b) := hb
  rw [hb]
  clear hb
  have H : Hid (Calls Tryz.prog 71 #[.int .i64 a] w fun e w' => e = .returned (.tuple #[.int .i64 (kindI a), .int .i64 (numI a)]) ∧ w' = w) := refWhat_any a w
  rcases kind_cases a with h | h | h | h | h | h
  · rw [h] at H
    have HB' : Hid (false = b) := by rw [← HB.out]; unfold openB; rw [h]; rfl
    clear h HB
    go_enter Tryz.func55, Tryz.ntmps55
    go_wp2_with fail
    refine Calls.mono (Hid.out H) ?_
    rintro e w' ⟨rfl, rfl⟩
    go_wp2
    go_ret
    exact ⟨ret_bool HB'.out, rfl⟩
  · rw [h] at H
    have HB' : Hid (false = b) := by rw [← HB.out]; unfold openB; rw [h]; rfl
    clear h HB
    go_enter Tryz.func55, Tryz.ntmps55
    go_wp2_with fail
    refine Calls.mono (Hid.out H) ?_
    rintro e w' ⟨rfl, rfl⟩
    go_wp2
    go_ret
    exact ⟨ret_bool HB'.out, rfl⟩
  · rw [h] at H
    have HB' : Hid (true = b) := by rw [← HB.out]; unfold openB; rw [h]; rfl
    clear h HB
    go_enter Tryz.func55, Tryz.ntmps55
    go_wp2_with fail
    refine Calls.mono (Hid.out H) ?_
    rintro e w' ⟨rfl, rfl⟩
    go_wp2
    go_ret
    exact ⟨ret_bool HB'.out, rfl⟩
  · rw [h] at H
    have HB' : Hid (true = b) := by rw [← HB.out]; unfold openB; rw [h]; rfl
    clear h HB
    go_enter Tryz.func55, Tryz.ntmps55
    go_wp2_with fail
    refine Calls.mono (Hid.out H) ?_
    rintro e w' ⟨rfl, rfl⟩
    go_wp2
    go_ret
    exact ⟨ret_bool HB'.out, rfl⟩
  · rw [h] at H
    have HB' : Hid (false = b) := by rw [← HB.out]; unfold openB; rw [h]; rfl
    clear h HB
    go_enter Tryz.func55, Tryz.ntmps55
    go_wp2_with fail
    refine Calls.mono (Hid.out H) ?_
    rintro e w' ⟨rfl, rfl⟩
    go_wp2
    go_ret
    exact ⟨ret_bool HB'.out, rfl⟩
  · rw [h] at H
    have HB' : Hid (true = b) := by rw [← HB.out]; unfold openB; rw [h]; rfl
    clear h HB
    go_enter Tryz.func55, Tryz.ntmps55
    go_wp2_with fail
    refine Calls.mono (Hid.out H) ?_
    rintro e w' ⟨rfl, rfl⟩
    go_wp2
    go_ret
    exact ⟨ret_bool HB'.out, rfl⟩

end Go.Proofs.YtomlbifplliakaaGreat
