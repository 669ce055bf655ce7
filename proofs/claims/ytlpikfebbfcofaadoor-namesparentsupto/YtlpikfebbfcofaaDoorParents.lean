/- The walk of NamesParents: for every two texts of at most 2^20 bytes and every number it answers true. -/
import Derived.Test.YtlpikfebbfcofaaDoorLives
import Derived.Test.YtlpikfebbfcofaaDoorHash
namespace Go.Proofs.YtlpikfebbfcofaaDoor.namesParents
open Go.RowKit

theorem pv_form (p : List UInt8) : ∃ u x i, pv p = .tuple #[.string u, .string x, .int .i64 i] := by
  unfold pv
  split
  · exact ⟨_, _, _, rfl⟩
  · split <;> exact ⟨_, _, _, rfl⟩

set_option maxHeartbeats 2000000 in
theorem walk (p q : ByteArray) (n : Int) (w : World) (hm : HM w) (hp : p.size ≤ 1048576) (hq : q.size ≤ 1048576) (n0 : -9223372036854775808 ≤ n) (n1 : n ≤ 9223372036854775807) :
    Calls Tryd.prog 4 #[.string p, .string q, .int .i64 n] w fun e w' => e = .returned (.bool true) ∧ Below w.heap.size w w' := by
  have pml : p.size ≤ maxLen := by unfold maxLen; omega
  have qml : q.size ≤ maxLen := by unfold maxLen; omega
  have P1 : Hid (∀ w, HM w → Calls Tryd.prog 14 #[.string p] w fun e w' => e = .returned (pv (ls p)) ∧ Below w.heap.size w w') := fun w hm => parent_any p w hm pml
  have P2 : Hid (∀ w, Calls Tryd.prog 15 #[.string p] w fun e w' => e = .returned (pv (ls p)) ∧ Below w.heap.size w w') := fun w => refParent_any p w hp
  have U1 : Hid (∀ w, HM w → Calls Tryd.prog 16 #[.string p, .string q] w fun e w' => e = .returned (.bool (Un (ls p) (ls q))) ∧ Below w.heap.size w w') := fun w hm => under_any p q w hm pml qml
  have U2 : Hid (∀ w, Calls Tryd.prog 17 #[.string p, .string q] w fun e w' => e = .returned (.bool (Un (ls p) (ls q))) ∧ Below w.heap.size w w') := fun w => refUnder_any p q w hp hq
  have B1 : Hid (∀ w, Calls Tryd.prog 18 #[.string p, .int .i64 n] w fun e w' => e = .returned (.int .i64 (bk p n)) ∧ w' = w) := fun w => bucket_any p n w pml n0 n1
  have B2 : Hid (∀ w, Calls Tryd.prog 19 #[.string p, .int .i64 n] w fun e w' => e = .returned (.int .i64 (bk p n)) ∧ w' = w) := fun w => refBucket_any p n w pml n0 n1
  obtain ⟨u, x, i, hpv⟩ := pv_form (ls p)
  rw [hpv] at P1 P2
  obtain ⟨U, hU⟩ : ∃ U, Un (ls p) (ls q) = U := ⟨_, rfl⟩
  rw [hU] at U1 U2
  obtain ⟨B, hB⟩ : ∃ B, bk p n = B := ⟨_, rfl⟩
  rw [hB] at B1 B2
  clear hpv hU hB
  have rr : (U == U) = true := by simp
  have ru : (u.toList == u.toList) = true := by simp
  have rx : (x.toList == x.toList) = true := by simp
  have ri : (i == i) = true := by simp
  have rb : (B == B) = true := by simp
  go_enter Tryd.func4, Tryd.ntmps4
  go_wp2_with fail
  refine (lives_any _ hm).mono ?_
  rintro e w1 ⟨rfl, hb1⟩
  have hm1 := hm.below hb1
  go_wp2_with fail
  refine Calls.mono (Hid.out P1 _ hm1) ?_
  rintro e w2 ⟨rfl, hb2⟩
  have hm2 := hm1.below hb2
  go_wp2_with fail
  refine Calls.mono (Hid.out P2 _) ?_
  rintro e w3 ⟨rfl, hb3⟩
  have hm3 := hm2.below hb3
  go_wp2_with fail
  refine Calls.mono (Hid.out U1 _ hm3) ?_
  rintro e w4 ⟨rfl, hb4⟩
  go_wp2_with fail
  refine Calls.mono (Hid.out U2 _) ?_
  rintro e w5 ⟨rfl, hb5⟩
  go_wp2_with fail
  refine Calls.mono (Hid.out B1 _) ?_
  rintro e w6 ⟨rfl, rfl⟩
  go_wp2_with fail
  refine Calls.mono (Hid.out B2 _) ?_
  rintro e w6 ⟨rfl, rfl⟩
  go_wp2
  go_ret
  exact ⟨rfl, below_chain (below_chain (below_chain (below_chain hb1 hb2) hb3) hb4) hb5⟩
end Go.Proofs.YtlpikfebbfcofaaDoor.namesParents
