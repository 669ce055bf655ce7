/- Contracts of the document's Right, lines and status. -/
import Derived.Test.YtfalchacdebdpaaSealJ
namespace Go.Proofs.Ytfalchacdebdpaa
open Go.RowKit Go.Maps Go.ChangeMaps Go.Shelf

theorem refRight_long (a : Option Addr) (n cap : Nat) (w : World) (h : 120 < n) :
    Calls Try.prog 12 #[.slice a n cap] w fun e w' => e = .returned (.int .i64 13) ∧ w' = w := by
  have h' : (120 : Int) < n := by omega
  go_enter Try.func12, Try.ntmps12
  go_wp2
  go_ret
  exact ⟨rfl, rfl⟩

set_option maxHeartbeats 2000000 in
theorem refRight_short (a : Option Addr) (cap : Nat) (cs : List Chg) (w : World) (h : ChgsAt w a cs) (hn : cs.length ≤ 120) :
    Calls Try.prog 12 #[.slice a cs.length cap] w fun e w' => e = .returned (.int .i64 (okI cs)) ∧ ∀ B, Below B w w' := by
  have hop := refOpen_any
  have H : Hid (ChgsAt w a cs) := h
  obtain ⟨n, hn'⟩ : ∃ n, cs.length = n := ⟨_, rfl⟩
  have HN : Hid (cs.length = n) := hn'
  rw [hn'] at hn ⊢
  obtain ⟨res, hres⟩ : ∃ r : Int, okI cs = r := ⟨_, rfl⟩
  have HR : Hid (okI cs = res) := hres
  rw [hres]
  clear h hn' hres
  go_enter Try.func12, Try.ntmps12
  go_wp2
  go_loopw [3, 4] (fun i _ wr => ∃ k : Nat, k ≤ n ∧ i = .int .i64 k ∧ Hid (okTo cs k) ∧ Hid (∃ m, wr = w.drewN m)) (fun i _ _ => n - (intOf i).toNat)
  case atStart => exact ⟨0, Nat.zero_le _, rfl, fun i hi => absurd hi (Nat.not_lt_zero i), ⟨0, rfl⟩⟩
  case round =>
    obtain ⟨k, hk, rfl, hok, hw⟩ := hrel
    by_cases hlt : k < n
    · obtain ⟨b, o, rfl, hb, hc⟩ := H.out.resolve_left (fun e => by have := HN.out; rw [e] at this; simp at this; omega)
      have hkn : (k : Int) < (n : Int) := by omega
      obtain ⟨m0, rfl⟩ := hw.out
      have HC : Hid (∀ i, i < n → w.cell? ⟨b, o + i * 2, none⟩ = some (.int .i64 (cs.getD i (0, 0)).1)) := fun i hi => (hc i (by rw [HN.out]; exact hi)).1
      have x1 := HC.out k hlt
      have HK1 : Hid (okTo cs (k + 1) ↔ okTo cs k ∧ openI (cs.getD k (0, 0)).1 ∧ ∀ j, j < k → (cs.getD j (0, 0)).1 ≠ (cs.getD k (0, 0)).1) := okTo_succ cs k
      have HLE : Hid (∀ m, okP cs → m ≤ n → okTo cs m) := fun m h hm => okTo_le h (by rw [HN.out]; exact hm)
      clear hc
      obtain ⟨X, hX⟩ : ∃ X, (cs.getD k (0, 0)).1 = X := ⟨_, rfl⟩
      rw [hX] at x1 HK1
      clear hX hw
      cases hopen : openB X with
      | false =>
        have HF : Hid (¬ openI X) := fun e => by rw [← openB_iff, hopen] at e; cases e
        go_wp2_with (first | (go_at_call 25; refine (hop X _).mono ?_; rintro e w' ⟨rfl, rfl⟩; rw [hopen]) | go_in)
        go_ret
        refine ⟨ret_int ?_, fun B => below_drewN (Below.refl _ _) _⟩
        rw [← HR.out, okI_neg]
        exact fun e => HF.out (HK1.out.1 (HLE.out (k + 1) e (by omega))).2.1
      | true =>
        have HF : Hid (openI X) := (openB_iff X).1 hopen
        go_wp2_with (first | (go_at_call 25; refine (hop X _).mono ?_; rintro e w' ⟨rfl, rfl⟩; rw [hopen]) | go_in)
        go_loopw [4] (fun q wr => ∃ j m : Nat, j ≤ k ∧ q = .int .i64 j ∧ wr = w.drewN m ∧ Hid (∀ i, i < j → (cs.getD i (0, 0)).1 ≠ X)) (fun q _ => k - (intOf q).toNat)
        case atStart => exact ⟨0, m0, Nat.zero_le _, rfl, rfl, fun i hi => absurd hi (Nat.not_lt_zero i)⟩
        case round =>
          obtain ⟨j, m, hj, rfl, rfl, hne⟩ := hrel
          by_cases hjk : j < k
          · have hjk2 : (j : Int) < (k : Int) := by omega
            have hjn : (j : Int) < (n : Int) := by omega
            have y1 := HC.out j (by omega)
            obtain ⟨Y, hY⟩ : ∃ Y, (cs.getD j (0, 0)).1 = Y := ⟨_, rfl⟩
            have HY : Hid ((cs.getD j (0, 0)).1 = Y) := hY
            rw [hY] at y1
            clear hY
            by_cases hxy : Y = X
            · subst hxy
              go_wp2
              go_quiet (fail)
              go_wp2
              go_ret
              refine ⟨ret_int ?_, fun B => below_drewN (below_drewN (Below.refl _ _) _) _⟩
              rw [← HR.out, okI_neg]
              exact fun e => (HK1.out.1 (HLE.out (k + 1) e (by omega))).2.2 j hjk HY.out
            · have hb : (Y == X) = false := by simpa using hxy
              have HXY : Hid (¬ Y = X) := hxy
              clear hxy
              go_wp2
              go_quiet (fail)
              go_wp2
              go_roundw
              case rel => exact ⟨j + 1, _, by omega, by go_num, rfl, fun i hi => by
                by_cases e : i = j
                · subst e; rw [HY.out]; exact HXY.out
                · exact hne.out i (by omega)⟩
              case measure => simp [intOf]; omega
          · obtain rfl : j = k := by omega
            go_wp2
            go_roundw
            case rel => exact ⟨j + 1, by omega, by go_num, HK1.out.2 ⟨hok.out, HF.out, hne.out⟩, ⟨m, rfl⟩⟩
            case measure => simp [intOf]; omega
    · obtain rfl : k = n := by omega
      obtain ⟨m0, rfl⟩ := hw.out
      go_wp2
      go_ret
      refine ⟨ret_int ?_, fun B => below_drewN (Below.refl _ _) _⟩
      rw [← HR.out, okI_pos]
      unfold okP; rw [HN.out]; exact hok.out

theorem refRight7_any (a : Option Addr) (cap : Nat) (cs : List Chg) (w : World) (h : ChgsAt w a cs) :
    Calls Try.prog 12 #[.slice a cs.length cap] w fun e w' => e = .returned (.int .i64 (rightP cs)) ∧ ∀ B, Below B w w' := by
  by_cases hn : 120 < cs.length
  · have e : rightP cs = 13 := by simp [rightP, hn]
    rw [e]
    refine (refRight_long a cs.length cap w hn).mono ?_
    rintro e w' ⟨rfl, rfl⟩
    exact ⟨rfl, fun B => Below.refl _ _⟩
  · have e : rightP cs = okI cs := by simp [rightP, hn]
    rw [e]
    exact refRight_short a cap cs w h (by omega)

end Go.Proofs.Ytfalchacdebdpaa
