/- GaugeBins' walk: for every two lists it answers true. -/
import Derived.Test.YtnebmbabfghlaaaDoorRefBins
namespace Go.Proofs.YtnebmbabfghlaaaDoor.gaugeBins
open Go.RowKit

theorem sum_set (bs : List Nat) (j : Nat) (h : j < bs.length) : (bs.set j (bs.getD j 0 + 1)).sum = bs.sum + 1 := by
  induction bs generalizing j with
  | nil => simp at h
  | cons b bs ih =>
    cases j with
    | zero => simp; omega
    | succ j =>
      have := ih j (by simpa using h)
      simp at this ⊢
      omega
theorem bins_sum (es xs : List Nat) : (binsN es xs).sum = xs.length := by
  have key : ∀ (l bs : List Nat), bs.length = es.length + 1 → (l.foldl (binStep es) bs).sum = bs.sum + l.length := by
    intro l
    induction l with
    | nil => intro bs _; rfl
    | cons x l ih =>
      intro bs hb
      rw [List.foldl_cons, ih _ (by simp [binStep, hb])]
      have := sum_set bs (edgeN es x) (by have := edge_le es x; omega)
      unfold binStep
      rw [this, List.length_cons]; omega
  unfold binsN
  rw [key _ _ (by simp)]
  simp
theorem take_sum (bs : List Nat) (k : Nat) (h : k < bs.length) : (bs.take (k + 1)).sum = (bs.take k).sum + bs.getD k 0 := by
  have e : bs.getD k 0 = bs[k] := by simp [List.getD, h]
  rw [e, List.take_succ_eq_append_getElem h, List.sum_append]; simp only [List.sum_cons, List.sum_nil, Nat.add_zero]
theorem take_sum_le (bs : List Nat) (k : Nat) : (bs.take k).sum ≤ bs.sum := by
  have := congrArg List.sum (List.take_append_drop k bs)
  rw [List.sum_append] at this; omega

set_option maxHeartbeats 2000000 in
theorem walk (a0 : Option Addr) (cap0 : Nat) (xs0 : List Nat) (a1 : Option Addr) (cap1 : Nat) (xs1 : List Nat) (w : World) (h0 : FIn w a0 cap0 xs0) (h1 : FIn w a1 cap1 xs1) :
    Calls Tryd.prog 5 #[.slice a0 xs0.length cap0, .slice a1 xs1.length cap1] w fun e w' => e = .returned (.bool true) ∧ Below w.heap.size w w' := by
  obtain ⟨xs, _, G0, E0⟩ := early_cut a0 cap0 xs0 w h0
  obtain ⟨es, _, G1, E1⟩ := early_cut a1 cap1 xs1 w h1
  have hc0 := h0.2.1
  have hc1 := h1.2.1
  clear h0 h1
  go_enter Tryd.func5, Tryd.ntmps5
  go_wp2_with fail
  refine (lives_any _).mono ?_
  rintro e w1 ⟨rfl, hb1⟩
  go_wp2_with fail
  refine Calls.mono (Hid.out E0 w1) ?_
  rintro e w' ⟨rfl, rfl⟩
  go_wp2_with fail
  refine Calls.mono (Hid.out E1 w') ?_
  rintro e w1 ⟨rfl, rfl⟩
  have F0 : Hid (FAt w1 a0 xs) := G0.out.below hb1 (Nat.le_refl _)
  have F1 : Hid (FAt w1 a1 es) := G1.out.below hb1 (Nat.le_refl _)
  clear G0 G1 E0 E1
  go_wp2_with fail
  refine (bins_any a0 a1 cap0 cap1 xs es w1 F0.out F1.out).mono ?_
  rintro e w2 ⟨rfl, ho2, hb2⟩
  have O2 : Hid (w2.ownsRow w1.heap.size 3 1 (.slice (some ⟨w1.heap.size, 0, none⟩) (es.length + 1) (es.length + 1)) (es.length + 1) (iRow (binsN es xs))) := ho2
  have hlt2 : w1.heap.size < w2.heap.size := (ho2.lt _ rfl).2
  clear ho2
  go_wp2_with fail
  refine (refBins_any a0 a1 cap0 cap1 xs es w2 (F0.out.below hb2 (Nat.le_refl _)) (F1.out.below hb2 (Nat.le_refl _))).mono ?_
  rintro e w3 ⟨rfl, ho3, hb3⟩
  have hla := F0.out.1
  have hlb := F1.out.1
  have C1 : Hid (∀ j, j < es.length + 1 → w3.cell? ⟨w1.heap.size, 0 + j, none⟩ = some (.int .i64 (((binsN es xs).getD j 0 : Nat) : Int))) := fun j hj => by
    rw [Nat.zero_add]
    refine (hb3.cell (p := ⟨w1.heap.size, j, none⟩) hlt2).trans ?_
    rw [O2.out.cellAt j (by omega), iRow_at _ _ (by rw [bins_len]; omega)]
  have C2 : Hid (∀ j, j < es.length + 1 → w3.cell? ⟨w2.heap.size, 0 + j, none⟩ = some (.int .i64 (((binsN es xs).getD j 0 : Nat) : Int))) := fun j hj => by
    rw [Nat.zero_add, ho3.cellAt j (by omega), iRow_at _ _ (by rw [bins_len]; omega)]
  clear ho3
  have HS : Hid ((binsN es xs).sum = xs.length) := bins_sum es xs
  have HL : Hid ((binsN es xs).length = es.length + 1) := bins_len es xs
  generalize binsN es xs = bs at *
  generalize hm : es.length = m at *
  generalize hn : xs.length = n at *
  clear hm hn F0 F1 O2
  go_wp2
  go_loop [7, 8] (fun s i => ∃ k : Nat, k ≤ m + 1 ∧ i = .int .i64 k ∧ ∃ q : Nat, q ≤ n ∧ (bs.take k).sum = q ∧ s = .int .i64 q) (fun _ i => m + 1 - (intOf i).toNat)
  case atStart => exact ⟨0, by omega, rfl, 0, by omega, rfl, rfl⟩
  case round =>
    obtain ⟨k, hk, rfl, q, hq, hs, rfl⟩ := hrel
    by_cases hlt : k < m + 1
    · obtain ⟨x, hx⟩ : ∃ x, x = bs.getD k 0 := ⟨_, rfl⟩
      have hsum := take_sum bs k (by rw [HL.out]; exact hlt)
      have hle := take_sum_le bs (k + 1)
      rw [HS.out] at hle
      have hqx : q + x ≤ n := by omega
      have HQ : Hid ((bs.take (k + 1)).sum = q + x) := by rw [hsum, hs, hx]; rfl
      have ck : w3.cell? ⟨w1.heap.size, k, none⟩ = some (.int .i64 (x : Int)) := by
        have := C1.out k hlt
        rw [Nat.zero_add, ← hx] at this; exact this
      have hki : (k : Int) < (m : Int) + 1 := by omega
      clear hs hx hsum hle
      go_wp2
      go_round
      case rel => exact ⟨k + 1, by omega, by go_num, q + x, hqx, HQ.out, by go_num⟩
      case measure => simp [intOf]; omega
    · obtain rfl : k = m + 1 := by omega
      have hqn : q = n := by
        rw [List.take_of_length_le (by rw [HL.out]; exact Nat.le_refl _), HS.out] at hs
        omega
      subst hqn
      clear hs
      have hki : ¬ ((m : Int) + 1 < (m : Int) + 1) := by omega
      go_wp2_with fail
      refine (sameInts_yes w1.heap.size w2.heap.size 0 0 (m + 1) bs w3 (by omega) C1.out C2.out).mono ?_
      rintro e w4 ⟨rfl, mm, rfl⟩
      go_wp2
      go_ret
      exact ⟨rfl, below_drewN ((hb1.trans (hb2.mono hb1.size)).trans (hb3.mono (by have := hb2.size; have := hb1.size; omega))) _⟩
end Go.Proofs.YtnebmbabfghlaaaDoor.gaugeBins
