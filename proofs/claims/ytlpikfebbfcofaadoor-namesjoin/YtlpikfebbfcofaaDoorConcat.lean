/- Contract of names.Lead (slices.Concat): the names of two lists, one behind the other, in new memory. -/
import Derived.Test.YtlpikfebbfcofaaDoorLead
namespace Go.Proofs.YtlpikfebbfcofaaDoor
open Go.RowKit

theorem grow_any (n : Nat) (w : World) (hn : n * 16 ≤ 281474976710656) :
    Calls Tryd.prog 36 #[.slice none 0 0, .int .i64 n] w fun e w' => ∃ a c, e = .returned (.slice a 0 c) ∧ n ≤ c ∧ w'.ownsRow w.heap.size 9 1 (.slice a 0 c) 0 [] ∧ Below w.heap.size w w' := by
  by_cases h0 : n = 0
  · subst h0
    exact (grow_zero w).mono fun e w' ⟨he, hw⟩ => ⟨none, 0, he, Nat.le_refl _, World.ownsRow_nil _ _ _ _, hw ▸ Below.refl _ _⟩
  · exact (grow_some n w (by omega) hn).mono fun e w' ⟨B, c, he, hc, ho, hb⟩ => ⟨some ⟨B, 0, none⟩, c, he, hc, ho, hb⟩

/-- how many of the two are gone through -/
def upTo (xs ys : List ByteArray) : Nat → List ByteArray
  | 0 => []
  | 1 => xs
  | _ => xs ++ ys

set_option maxHeartbeats 4000000 in
theorem concat_any (B : Nat) (a1 a2 : Option Addr) (n1 n2 c1 c2 : Nat) (xs ys : List ByteArray) (w : World) (hB : B < w.heap.size)
    (hc1 : w.cell? ⟨B, 0, none⟩ = some (.slice a1 n1 c1)) (hc2 : w.cell? ⟨B, 1, none⟩ = some (.slice a2 n2 c2)) (h1 : TAt w a1 xs) (h2 : TAt w a2 ys)
    (l1 : xs.length = n1) (l2 : ys.length = n2) (hn1 : n1 * 16 ≤ 140737488351232) (hn2 : n2 * 16 ≤ 140737488351232) :
    Calls Tryd.prog 30 #[.slice (some ⟨B, 0, none⟩) 2 2] w fun e w' => ∃ a c, e = .returned (.slice a (n1 + n2) c) ∧ n1 + n2 ≤ c ∧ TAt w' a (xs ++ ys) ∧ Below w.heap.size w w' := by
  have H1 : Hid (TAt w a1 xs) := h1
  have H2 : Hid (TAt w a2 ys) := h2
  have L1 : Hid (xs.length = n1) := l1
  have L2 : Hid (ys.length = n2) := l2
  clear h1 h2 l1 l2
  go_enter Tryd.func30, Tryd.ntmps30
  go_wp2
  go_loop [3, 5, 11] (fun z _ i => (i = .int .i64 0 ∧ z = .int .i64 0) ∨ (i = .int .i64 1 ∧ z = .int .i64 n1) ∨ (i = .int .i64 2 ∧ z = .int .i64 (n1 + n2 : Nat))) (fun _ _ i => 2 - (intOf i).toNat)
  case atStart => exact .inl ⟨rfl, rfl⟩
  case round =>
    rcases hrel with ⟨rfl, rfl⟩ | ⟨rfl, rfl⟩ | ⟨rfl, rfl⟩
    · go_wp2
      go_round
      case rel => exact .inr (.inl ⟨rfl, by go_num⟩)
      case measure => simp [intOf]
    · go_wp2
      go_round
      case rel => exact .inr (.inr ⟨rfl, by go_num⟩)
      case measure => simp [intOf]
    · go_wp2_with fail
      refine (grow_any (n1 + n2) _ (by omega)).mono ?_
      rintro e w1 ⟨a, c, rfl, hc, hown, hb⟩
      go_wp2
      go_loopw [6, 8, 27] (fun v _ i wr => ∃ k : Nat, k ≤ 2 ∧ i = .int .i64 k ∧ (∃ a, v = .slice a (upTo xs ys k).length c) ∧ wr.ownsRow w.heap.size 9 1 v (upTo xs ys k).length (vs (upTo xs ys k)) ∧ Below w.heap.size w wr) (fun _ _ i _ => 2 - (intOf i).toNat)
      case atStart => exact ⟨0, by omega, rfl, ⟨a, rfl⟩, hown, hb⟩
      case round =>
        obtain ⟨k, hk, rfl, hv, ho, hnx⟩ := hrel
        have t1 := H1.out.below hnx (Nat.le_refl _)
        have t2 := H2.out.below hnx (Nat.le_refl _)
        have d1 : wr.cell? ⟨B, 0, none⟩ = some (.slice a1 n1 c1) := (hnx.cell (p := ⟨B, 0, none⟩) hB).trans hc1
        have d2 : wr.cell? ⟨B, 1, none⟩ = some (.slice a2 n2 c2) := (hnx.cell (p := ⟨B, 1, none⟩) hB).trans hc2
        have e1 := L1.out
        have e2 := L2.out
        rcases (show k = 0 ∨ k = 1 ∨ k = 2 by omega) with rfl | rfl | rfl
        · obtain ⟨v', w', hr, ho', hv', hg⟩ := run_append_texts 23 wr (xs := []) (ys := xs) ho hv a1 c1 t1 (by simp; omega)
          have hnx' : Below w.heap.size w w' := hnx.grown hg hnx.size (fun j h => (ho.lt j h).1)
          rw [e1] at hr
          have HR : Hid _ := hr
          obtain ⟨q, hq⟩ := hv
          have HO : Hid _ := ho'
          have HV : Hid _ := hv'
          subst hq
          clear hr t1 t2 ho hg ho' hv' hown hb e1 e2
          go_wp2_with (at_builtin; refine Lib.wpList_append_run _ rfl _ _ _ _ rfl _ _ rfl rfl _ _ (Hid.out HR) ?_)
          go_roundw
          case rel => exact ⟨1, by omega, rfl, HV.out, HO.out, hnx'⟩
          case measure => simp [intOf]
        · obtain ⟨v', w', hr, ho', hv', hg⟩ := run_append_texts 23 wr (xs := xs) (ys := ys) ho hv a2 c2 t2 (by omega)
          have hnx' : Below w.heap.size w w' := hnx.grown hg hnx.size (fun j h => (ho.lt j h).1)
          rw [e2] at hr
          have HR : Hid _ := hr
          obtain ⟨q, hq⟩ := hv
          have HO : Hid _ := ho'
          have HV : Hid _ := hv'
          subst hq
          clear hr t1 t2 ho hg ho' hv' hown hb e1 e2
          go_wp2_with (at_builtin; refine Lib.wpList_append_run _ rfl _ _ _ _ rfl _ _ rfl rfl _ _ (Hid.out HR) ?_)
          go_roundw
          case rel => exact ⟨2, by omega, rfl, HV.out, HO.out, hnx'⟩
          case measure => simp [intOf]
        · obtain ⟨a', c', hv2, hac, hta⟩ := own_texts ho
          have HA : Hid (a' = a') := rfl
          have hl : (upTo xs ys 2).length = n1 + n2 := by show (xs ++ ys).length = _; rw [List.length_append]; omega
          rw [hl] at hv2 hac
          subst hv2
          clear hv ho hown hb t1 t2 e1 e2 HA
          go_wp2
          go_ret
          exact ⟨a', c', rfl, hac, hta, hnx⟩

set_option maxHeartbeats 1000000 in
theorem lead_any (a1 a2 : Option Addr) (c1 c2 : Nat) (xs ys : List ByteArray) (w : World) (h1 : TAt w a1 xs) (h2 : TAt w a2 ys) (hn1 : xs.length * 16 ≤ 140737488351232) (hn2 : ys.length * 16 ≤ 140737488351232) :
    Calls Tryd.prog 22 #[.slice a1 xs.length c1, .slice a2 ys.length c2] w fun e w' => ∃ a c, e = .returned (.slice a (xs.length + ys.length) c) ∧ xs.length + ys.length ≤ c ∧ TAt w' a (xs ++ ys) ∧ Below w.heap.size w w' := by
  have C : Hid (∀ w1 B, B < w1.heap.size → w1.cell? ⟨B, 0, none⟩ = some (.slice a1 xs.length c1) → w1.cell? ⟨B, 1, none⟩ = some (.slice a2 ys.length c2) → Below w.heap.size w w1 →
      Calls Tryd.prog 30 #[.slice (some ⟨B, 0, none⟩) 2 2] w1 fun e w' => ∃ a c, e = .returned (.slice a (xs.length + ys.length) c) ∧ xs.length + ys.length ≤ c ∧ TAt w' a (xs ++ ys) ∧ Below w1.heap.size w1 w') :=
    fun w1 B hB d1 d2 hb => concat_any B a1 a2 _ _ c1 c2 xs ys w1 hB d1 d2 (h1.below hb (Nat.le_refl _)) (h2.below hb (Nat.le_refl _)) rfl rfl hn1 hn2
  clear h1 h2
  go_enter Tryd.func22, Tryd.ntmps22
  go_wp2_with fail
  refine Calls.mono (Hid.out C _ _ (by simp) (by simp) (by simp) ((Below.refl _ _).alloc (Nat.le_refl _) _)) ?_
  rintro e w' ⟨a, c, rfl, hc, ht, hb⟩
  go_wp2
  go_ret
  exact ⟨a, c, rfl, hc, ht, ((Below.refl _ _).alloc (Nat.le_refl _) _).trans (hb.mono (by simp))⟩
end Go.Proofs.YtlpikfebbfcofaaDoor
