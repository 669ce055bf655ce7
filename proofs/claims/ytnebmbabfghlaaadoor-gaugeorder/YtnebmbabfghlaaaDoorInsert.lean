/- Contract of insertionSort over a row of the call's own. -/
import Derived.Test.YtnebmbabfghlaaaDoorSwap
import Derived.Test.YtnebmbabfghlaaaDoorSortMath2
import Derived.Deep.QuietTactic
import Derived.BigQuiet
import Derived.BigRegion
namespace Go.Proofs.YtnebmbabfghlaaaDoor
open Go.RowKit
attribute [local go_sem] run_store_float

theorem cmp_neg (x y : Nat) : cmpI x y < 0 ↔ K x < K y := by
  unfold cmpI ah
  by_cases h : K x < K y
  · simp [h]
  · by_cases h2 : K y < K x <;> simp [h, h2]
/-- The key of a place. -/
def key (g : Nat → Nat) : Nat → Int := fun x => K (g x)

set_option maxHeartbeats 2000000 in
theorem insertion_any (w : World) (base B cap n a b : Nat) (g s : Nat → Nat) (h : Own w base B cap n g s) (hn : n ≤ 100) (hab : a ≤ b) (hbn : b ≤ n) (hinc : Inc s a b) :
    Calls Tryd.prog 56 #[.slice (some ⟨B, 0, none⟩) n cap, .int .i64 a, .int .i64 b, cmpV] w fun e w' => e = .returned (.tuple #[]) ∧ ∃ t, Own w' base B cap n g t ∧ Prm s t a b ∧ Srt (key g) t a b ∧ Below base w w' := by
  have H : Hid (Own w base B cap n g s) := h
  have HI : Hid (Inc s a b) := hinc
  clear h hinc
  by_cases hlt0 : a < b
  · go_enter Tryd.func56, Tryd.ntmps56
    go_wp2
    go_loopg [8, 9] (b - (a + 1)) (fun q x _ wr => ∃ (i : Nat) (t : Nat → Nat), i + q = b ∧ a + 1 ≤ i ∧ x = .int .i64 i ∧ Own wr base B cap n g t ∧ Below base w wr ∧ Aside (Prm s t a i) ∧ Aside (Srt (key g) t a i))
    case atStart => exact ⟨a + 1, s, by omega, by omega, by go_num, H.out, Below.refl _ _, Prm.refl _ _ _, Srt.one (by omega)⟩
    case round =>
      obtain ⟨i, t, hi, hai, rfl, ho, hb, hp, hs⟩ := hrel
      have HO : Hid (Own wr base B cap n g t) := ho
      clear H ho
      cases gk with
      | zero =>
        obtain rfl : i = b := by omega
        go_wp2
        go_end0
        exact ⟨rfl, t, HO.out, hp.out, hs.out, hb⟩
      | succ q =>
        have hib : i < b := by omega
        have hib2 : (i : Int) < (b : Int) := by omega
        have hst : Aside (Ins (key g) t a i i) := ins_start hp.out hs.out HI.out hib
        go_wp2
        go_loopg [9] (i - a) (fun r y wy => ∃ (j : Nat) (u : Nat → Nat), j = a + r ∧ j ≤ i ∧ y = .int .i64 j ∧ Own wy base B cap n g u ∧ Below base w wy ∧ Aside (Prm t u a (i + 1)) ∧ Aside (Ins (key g) u a i j))
        case atStart => exact ⟨i, t, by omega, by omega, rfl, HO.out, hb, Prm.refl _ _ _, hst⟩
        case round =>
          clear HO hb hst
          obtain ⟨j, u, hj, hji, rfl, ho, hb, hp2, hin⟩ := hrel
          have HO : Hid (Own wr base B cap n g u) := ho
          clear ho
          have out : (j ≤ a ∨ ¬ key g (u j) < key g (u (j - 1))) → Prm s u a (i + 1) ∧ Srt (key g) u a (i + 1) := fun hk =>
            ⟨(hp.out.mono (Nat.le_refl _) (by omega)).trans hp2.out, ins_end hin.out hji hk⟩
          have OUT : Hid ((j ≤ a ∨ ¬ key g (u j) < key g (u (j - 1))) → Prm s u a (i + 1) ∧ Srt (key g) u a (i + 1)) := out
          clear out
          cases gk with
          | zero =>
            have hdec : decide ((j : Int) > (a : Int)) = false := by simp; omega
            have hdec2 : ¬ (a : Int) < (j : Int) := by omega
            go_wp2
            go_quiet ((go_at_call 15; exact Calls.quiet_of_same (compare_any _ _ _)))
            go_wp2
            go_roundg q
            case measure => omega
            case rel => exact ⟨i + 1, u, by omega, by omega, by go_num, HO.out, below_drewN hb _, (OUT.out (.inl (by omega))).1, (OUT.out (.inl (by omega))).2⟩
          | succ r =>
            have hja : (a : Int) < (j : Int) := by omega
            have HJ : Hid (j = a + (r + 1)) := hj
            clear hj
            have cj := HO.out.cell (i := j) (by omega)
            have ci := HO.out.cell (i := j - 1) (by omega)
            have fj := HO.out.frozen j
            have fi := HO.out.frozen (j - 1)
            have e1 : (j : Int) - 1 = ((j - 1 : Nat) : Int) := by omega
            have l1 : (j : Int) < (n : Int) := by omega
            have l2 : ((j - 1 : Nat) : Int) < (n : Int) := by omega
            obtain ⟨I, hI⟩ : ∃ I, I = j - 1 := ⟨_, rfl⟩
            rw [← hI] at ci fi e1 l2
            have hne : ¬ I = j := by omega
            have hne2 : ¬ j = I := by omega
            have hIn : I < n := by omega
            have HII : Hid (I = j - 1) := hI
            clear hI
            have hcm := cmp_neg (g (u j)) (g (u I))
            by_cases hk : K (g (u j)) < K (g (u I))
            · have hneg : cmpI (g (u j)) (g (u I)) < 0 := hcm.2 hk
              have HINS : Hid (Ins (key g) (sw u j I) a i I) := by
                have := ins_step hin.out (by omega) hji (by rw [← HII.out]; exact hk)
                rw [← HII.out] at this; exact this
              have HP : Hid (Prm t (sw u j I) a (i + 1)) := hp2.out.trans (sw_prm u (by omega) (by omega) (by omega) (by omega))
              clear hcm hk hin hp2
              go_wp2
              go_quiet ((go_at_call 15; exact Calls.quiet_of_same (compare_any _ _ _)))
              go_wp2
              generalize hwq : wr.drewN _ = wq
              have cj' : wq.cell? ⟨B, j, none⟩ = some (.float .f64 (g (u j))) := by rw [← hwq]; exact cj
              have ci' : wq.cell? ⟨B, I, none⟩ = some (.float .f64 (g (u I))) := by rw [← hwq]; exact ci
              have fj' : wq.frozen? ⟨B, j, none⟩ = false := by rw [← hwq]; exact fj
              have fi' : wq.frozen? ⟨B, I, none⟩ = false := by rw [← hwq]; exact fi
              have HOq : Hid (Own wq base B cap n g u) := by rw [← hwq]; exact HO.out.drewN _
              have hbq : Below base w wq := by rw [← hwq]; exact below_drewN hb _
              clear hwq cj ci fj fi HO hb
              go_region
              all_goals (try go_wp2)
              go_roundg r
              case measure => omega
              case rel => exact ⟨I, sw u j I, by have := HII.out; have := HJ.out; omega, by have := HII.out; omega, by first | rfl | go_num, HOq.out.swap j I hIn, ((hbq.setCell HOq.out.lt.1 _).setCell HOq.out.lt.1 _).drew, HP.out, HINS.out⟩
            · have hneg : ¬ cmpI (g (u j)) (g (u I)) < 0 := fun h => hk (hcm.1 h)
              have hneg2 : decide (cmpI (g (u j)) (g (u I)) < 0) = false := by simpa using hneg
              have HD : Hid (Prm s u a (i + 1) ∧ Srt (key g) u a (i + 1)) := OUT.out (.inr (by rw [← HII.out]; exact hk))
              clear hcm hk hin hp2
              go_wp2
              go_quiet ((go_at_call 15; exact Calls.quiet_of_same (compare_any _ _ _)))
              go_wp2
              go_roundg q
              case measure => omega
              case rel => exact ⟨i + 1, u, by omega, by omega, by go_num, HO.out, below_drewN hb _, HD.out.1, HD.out.2⟩
  · obtain rfl : a = b := by omega
    go_enter Tryd.func56, Tryd.ntmps56
    go_wp2
    go_loopg [8, 9] 0 (fun q x _ wr => x = .int .i64 ((a : Int) + 1) ∧ wr = w)
    case atStart => exact ⟨rfl, rfl⟩
    case round =>
      obtain ⟨rfl, rfl⟩ := hrel
      go_wp2
      go_end0
      exact ⟨rfl, s, H.out, Prm.refl _ _ _, Srt.one (by omega), Below.refl _ _⟩
end Go.Proofs.YtnebmbabfghlaaaDoor
