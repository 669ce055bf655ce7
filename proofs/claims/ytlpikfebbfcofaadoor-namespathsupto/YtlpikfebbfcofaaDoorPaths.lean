/- The walk of NamesPaths: for every name and every path of at most 2^20 bytes it answers true. -/
import Derived.Test.YtlpikfebbfcofaaDoorLives
namespace Go.Proofs.YtlpikfebbfcofaaDoor.namesPaths
open Go.RowKit

set_option maxHeartbeats 2000000 in
theorem walk (s p : ByteArray) (w : World) (hm : HM w) (hs : s.size ≤ 1048576) (hp : p.size ≤ 1048576) :
    Calls Tryd.prog 3 #[.string s, .string p] w fun e w' => e = .returned (.bool true) ∧ Below w.heap.size w w' := by
  have hml : s.size ≤ maxLen := by unfold maxLen; omega
  have S : Hid (∀ w, HM w → Calls Tryd.prog 9 #[.string p] w fun e w' => Ans (Sp (ls p)) w e w') := fun w hm => nsplit_any p w hm (by unfold maxLen; omega)
  have T : Hid (∀ w, Calls Tryd.prog 10 #[.string p] w fun e w' => Ans (Sp (ls p)) w e w') := fun w => refSplit_any p w hp
  have Q1 : Hid (∀ w, Calls Tryd.prog 11 #[.string s] w fun e w' => e = .returned (.bool (R s)) ∧ w' = w) := fun w => right_any s w hml
  have Q2 : Hid (∀ w, Calls Tryd.prog 12 #[.string s] w fun e w' => e = .returned (.bool (R s)) ∧ w' = w) := fun w => refRight_any s w hml
  obtain ⟨r, hr⟩ : ∃ r, R s = r := ⟨_, rfl⟩
  rw [hr] at Q1 Q2
  clear hr
  cases hS : Sp (ls p) with
  | none =>
    rw [hS] at S T
    clear hS
    go_enter Tryd.func3, Tryd.ntmps3
    go_wp2_with fail
    refine (lives_any _ hm).mono ?_
    rintro e w1 ⟨rfl, hb1⟩
    have hm1 := hm.below hb1
    go_wp2_with fail
    refine Calls.mono (Hid.out S _ hm1) ?_
    rintro e w2 ⟨rfl, hb2⟩
    go_wp2_with fail
    refine Calls.mono (Hid.out T _) ?_
    rintro e w3 ⟨rfl, hb3⟩
    go_wp2_with fail
    refine Calls.mono (Hid.out Q1 _) ?_
    rintro e w4 ⟨rfl, rfl⟩
    go_wp2_with fail
    refine Calls.mono (Hid.out Q2 _) ?_
    rintro e w4 ⟨rfl, rfl⟩
    have rr : (r == r) = true := by simp
    go_wp2_with fail
    refine (same_zero _ _ _ _ _).mono ?_
    rintro e w4 ⟨rfl, rfl⟩
    go_wp2
    go_ret
    exact ⟨rfl, below_chain (below_chain hb1 hb2) hb3⟩
  | some xs =>
    have hl : (mks xs).length ≤ 120 := by rw [mks_len]; exact (Sp_small hS).1
    rw [hS] at S T
    clear hS
    go_enter Tryd.func3, Tryd.ntmps3
    go_wp2_with fail
    refine (lives_any _ hm).mono ?_
    rintro e w1 ⟨rfl, hb1⟩
    have hm1 := hm.below hb1
    go_wp2_with fail
    refine Calls.mono (Hid.out S _ hm1) ?_
    rintro e w2 ⟨a, c, rfl, hc, ht, hb2⟩
    go_wp2_with fail
    refine Calls.mono (Hid.out T _) ?_
    rintro e w3 ⟨a2, c2, rfl, hc2, ht2, hb3⟩
    have SM : Hid (Calls Tryd.prog 13 #[.slice a (mks xs).length c, .slice a2 (mks xs).length c2] w3 fun e w' => e = .returned (.bool true) ∧ Below w3.heap.size w3 w') :=
      (same_any a a2 c c2 (mks xs) (mks xs) w3 (ht.below hb3 (Nat.le_refl _)) ht2 (by omega)).mono fun e w' ⟨he, m, hw⟩ => ⟨by rw [he]; simp, hw ▸ below_drew _ _⟩
    clear ht ht2
    go_wp2_with fail
    refine Calls.mono (Hid.out Q1 _) ?_
    rintro e w4 ⟨rfl, rfl⟩
    go_wp2_with fail
    refine Calls.mono (Hid.out Q2 _) ?_
    rintro e w4 ⟨rfl, rfl⟩
    have rr : (r == r) = true := by simp
    go_wp2_with fail
    refine Calls.mono (Hid.out SM) ?_
    rintro e w4 ⟨rfl, hb4⟩
    go_wp2
    go_ret
    exact ⟨rfl, below_chain (below_chain (below_chain hb1 hb2) hb3) hb4⟩
end Go.Proofs.YtlpikfebbfcofaaDoor.namesPaths
