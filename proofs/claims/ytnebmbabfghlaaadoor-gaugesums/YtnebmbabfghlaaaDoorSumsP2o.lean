/- fmtEFG without an exponent, no sign, whole numbers: the text is one, whatever the world. -/
import Derived.Test.YtnebmbabfghlaaaDoorSumsK
import Derived.Deep.LoopGhost
namespace Go.Proofs.YtnebmbabfghlaaaDoor
open Go.RowKit Go.Lib
set_option linter.unusedSimpArgs false
set_option maxRecDepth 20000 in
set_option maxHeartbeats 4000000 in
theorem fmtF_op2 (f : Nat → UInt8) (nd dp : Nat) (hnd2 : nd ≤ 20) (h0 : 1 ≤ dp) (h1 : dp ≤ 6) (hle : nd ≤ dp) : ∃ T, ∀ (w0 w : World) (base B : Nat) (v : Value), FE w0 base B nd f w v [] →
    Calls Tryd.prog 65 #[v, .bool false, .slice (some ⟨B, 0, none⟩) 32 32, .int .i64 dp, .int .i64 nd, .int .i64 nd, .int .u8 103, .bool true] w fun e w' => ∃ v', e = .returned v' ∧ FE w0 base B nd f w' v' T := by
  apply Exists.intro
  · intro w0 w base B v hf
    have HF0 : Hid (FE w0 base B nd f w v []) := hf
    clear hf
    have hA : -4 ≤ (dp : Int) - 1 := by omega
    have hB : (dp : Int) - 1 < 6 := by omega
    have hD : 0 < (dp : Int) := by omega
    have hDn : 0 < dp := h0
    have hCd : decide (dp < nd) = false := by simp; omega
    have hC : (nd : Int) ≤ (dp : Int) := by omega
    have hmin : min (nd : Int) (dp : Int) = (nd : Int) := by omega
    have hmax : max ((nd : Int) - (dp : Int)) 0 = 0 := by omega
    go_enter Tryd.func65, Tryd.ntmps65
    go_wp2_with fail
    go_loopg [0, 25, 191] (nd) (fun q d _ i wy => ∃ k : Nat, k + q = nd ∧ i = .int .i64 k ∧ FE w0 base B nd f wy d (([] : List UInt8) ++ (List.range k).map f))
    case atStart => exact ⟨0, by omega, rfl, by simpa using HF0.out⟩
    case round =>
      obtain ⟨k1, hq1, rfl, hl1⟩ := hrel
      cases gk with
      | succ q =>
        have hin : (k1 : Int) < (nd : Int) := by omega
        have ck := hl1.2.2.1 (k1) (by omega)
        have HK : Hid (FE w0 base B nd f _ _ (([] : List UInt8) ++ (List.range k1).map f)) := hl1
        clear hl1
        go_wp2_with (at_builtin; refine wp_appZ rfl _ _ rfl [((f (k1)).toNat : Int)] 1 rfl _ rfl (by decide) ?z HK.out (by simp [toB] <;> omega) rfl rfl ?_)
        case z => intro z hz; simp at hz; subst hz; have := (f (k1)).toNat_lt; omega
        intro v1 w1 hf1
        have HF5 : Hid (FE w0 base B nd f w1 v1 _) := hf1
        clear hf1
        go_wp2
        go_roundg q
        case measure => omega
        case rel =>
          refine ⟨k1 + 1, by omega, by go_num, ?_⟩
          have := HF5.out
          rw [List.range_succ, List.map_append]
          simpa [toB] using this
      | zero =>
        obtain rfl : nd = k1 := by omega
        have HA1 : Hid (FE w0 base B nd f _ _ (([] : List UInt8) ++ (List.range nd).map f)) := hl1
        clear hl1
        go_wp2_with fail
        go_loopg [0, 203] (dp - nd) (fun q d i wy => ∃ k : Nat, k + q = dp - nd ∧ i = .int .i64 k ∧ FE w0 base B nd f wy d (([] : List UInt8) ++ (List.range nd).map f ++ List.replicate (k) 48))
        case atStart => exact ⟨0, by omega, rfl, by simpa using HA1.out⟩
        case round =>
          obtain ⟨k2, hq2, rfl, hl2⟩ := hrel
          cases gk with
          | succ q =>
            have hin : (k2 : Int) < (dp : Int) - (nd : Int) := by omega
            have HK : Hid (FE w0 base B nd f _ _ (([] : List UInt8) ++ (List.range nd).map f ++ List.replicate (k2) 48)) := hl2
            clear hl2
            go_wp2_with (at_builtin; refine wp_appZ rfl _ _ rfl [48] 1 rfl _ rfl (by decide) ?z HK.out (by simp [toB] <;> omega) rfl rfl ?_)
            case z => intro z hz; simp at hz; subst hz; decide
            intro v1 w1 hf1
            have HF5 : Hid (FE w0 base B nd f w1 v1 _) := hf1
            clear hf1
            go_wp2
            go_roundg q
            case measure => omega
            case rel =>
              refine ⟨k2 + 1, by omega, by go_num, ?_⟩
              have := HF5.out
              rw [List.replicate_succ']
              simpa [toB] using this
          | zero =>
            have hkk : k2 = dp - nd := by omega
            rw [hkk] at hl2
            have hki : (k2 : Int) = (dp : Int) - (nd : Int) := by omega
            have HA2 : Hid (FE w0 base B nd f _ _ (([] : List UInt8) ++ (List.range nd).map f ++ List.replicate (dp - nd) 48)) := hl2
            clear hl2 hkk
            go_wp2_with fail
            go_ret
            exact ⟨_, rfl, HA2.out⟩
end Go.Proofs.YtnebmbabfghlaaaDoor
