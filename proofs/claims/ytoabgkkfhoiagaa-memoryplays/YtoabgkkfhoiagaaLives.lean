/- What every law asks first: that the program answers at all. -/
import Derived.Test.YtoabgkkfhoiagaaCrash
namespace Go.Proofs.Ytoabgkkfhoiagaa
open Go.RowKit Go.Maps Go.ChangeMaps

def lm0 : Mem := fresh (List.replicate 20 0)
def lm1 : Mem := lm0.store 9 7
def lm2 : Mem := lm1.flush 8
def lm3 : Mem := lm2.fence
def lm4 : Mem := lm3.store 9 8
def lm5 : Mem := lm4.crash []

theorem lm_e1 : lm0.errAt 9 = 0 := by decide
theorem lm_e2 : lm1.errAt 8 = 0 := by decide
theorem lm_e3 : lm2.err = 0 := by decide
theorem lm_e4 : lm3.errAt 9 = 0 := by decide
theorem lm_r4 : lm4.read 9 = 8 := by decide
theorem lm_r5 : lm5.read 9 = 7 := by decide
theorem lm_n5 : lm5.sure.length = 20 := by decide
theorem lm_c5 : lm5.calls = 4 := by decide
theorem lm_c0 : lm0.calls < 1000000000 := by decide
theorem lm_c1 : lm1.calls < 1000000000 := by decide
theorem lm_c2 : lm2.calls < 1000000000 := by decide
theorem lm_c3 : lm3.calls < 1000000000 := by decide
theorem lm_c4 : lm4.calls < 1000000000 := by decide

theorem below_only {S : List Nat} {B : Nat} {a w w' : World} (h : Below B a w) (ho : Only S w w') (hB : B ≤ w.heap.size) (hS : ∀ k ∈ S, B ≤ k) : Below B a w' := h.trans (ho.below hB hS)

set_option maxHeartbeats 1000000 in
theorem lives_any (w : World) : Calls Try.prog 10 #[] w fun e w' => e = .returned (.bool true) ∧ Below w.heap.size w w' := by
  go_enter Try.func10, Try.ntmps10
  go_wp2_with fail
  refine (new_any 20 20 _ (by decide)).mono ?_
  rintro e w1 ⟨L, rfl, h0, hL, b1⟩
  have h0' : MemIs w1 L lm0 := h0
  go_wp2_with fail
  refine (store_any L lm0 9 7 _ h0' lm_c0 (by decide) (by decide)).mono ?_
  rintro e w2 ⟨rfl, h1, o1⟩
  rw [lm_e1]
  have h1' : MemIs w2 L lm1 := h1
  go_wp2_with fail
  refine (flush_any L lm1 8 _ h1' lm_c1).mono ?_
  rintro e w3 ⟨rfl, h2, o2⟩
  rw [lm_e2]
  have h2' : MemIs w3 L lm2 := h2
  go_wp2_with fail
  refine (fence_any L lm2 _ h2' lm_c2).mono ?_
  rintro e w4 ⟨rfl, h3, o3⟩
  rw [lm_e3]
  have h3' : MemIs w4 L lm3 := h3
  go_wp2_with fail
  refine (store_any L lm3 9 8 _ h3' lm_c3 (by decide) (by decide)).mono ?_
  rintro e w5 ⟨rfl, h4, o4⟩
  rw [lm_e4]
  have h4' : MemIs w5 L lm4 := h4
  go_wp2_with fail
  refine (read_any L lm4 9 _ h4' (by decide)).mono ?_
  rintro e w6 ⟨rfl, hw⟩
  obtain rfl := hw.symm
  rw [lm_r4]
  go_wp2_with fail
  refine (crash_any L lm4 _ [] _ h4' lm_c4 (keepIs_nil _ _) (by decide)).mono ?_
  rintro e w6 ⟨rfl, h5, o5⟩
  have h5' : MemIs w6 L lm5 := h5
  go_wp2_with fail
  refine (read_any L lm5 9 _ h5' (by decide)).mono ?_
  rintro e w7 ⟨rfl, hw⟩
  obtain rfl := hw.symm
  rw [lm_r5]
  go_wp2_with fail
  refine (size_any L lm5 _ h5').mono ?_
  rintro e w7 ⟨rfl, hw⟩
  obtain rfl := hw.symm
  rw [lm_n5]
  go_wp2_with fail
  refine (calls_any L lm5 _ h5').mono ?_
  rintro e w7 ⟨rfl, hw⟩
  obtain rfl := hw.symm
  rw [lm_c5]
  go_wp2
  go_ret
  refine ⟨rfl, ?_⟩
  have oo := (((o1.trans o2).trans o3).trans o4).trans o5
  exact below_only b1 oo b1.size hL

end Go.Proofs.Ytoabgkkfhoiagaa
