/- fmtEFG without an exponent, a sign, digits on both sides: the text is one, whatever the world. -/
import Derived.Test.YtnebmbabfghlaaaDoorSumsK
import Derived.Deep.LoopGhost
namespace Go.Proofs.YtnebmbabfghlaaaDoor
open Go.RowKit Go.Lib
set_option linter.unusedSimpArgs false
set_option maxRecDepth 20000 in
set_option maxHeartbeats 4000000 in
theorem fmtF_mp1 (f : Nat → UInt8) (nd dp : Nat) (hnd2 : nd ≤ 20) (h0 : 1 ≤ dp) (h1 : dp ≤ 6) (hlt : dp < nd) : ∃ T, ∀ (w0 w : World) (base B : Nat) (v : Value), FE w0 base B nd f w v [] →
    Calls Tryd.prog 65 #[v, .bool true, .slice (some ⟨B, 0, none⟩) 32 32, .int .i64 dp, .int .i64 nd, .int .i64 nd, .int .u8 103, .bool true] w fun e w' => ∃ v', e = .returned v' ∧ FE w0 base B nd f w' v' T := by
  apply Exists.intro
  · intro w0 w base B v hf
    have HF0 : Hid (FE w0 base B nd f w v []) := hf
    clear hf
    have hA : -4 ≤ (dp : Int) - 1 := by omega
    have hB : (dp : Int) - 1 < 6 := by omega
    have hD : 0 < (dp : Int) := by omega
    have hDn : 0 < dp := h0
    have hC : (dp : Int) < (nd : Int) := by omega
    have hmin : min (nd : Int) (dp : Int) = (dp : Int) := by omega
    have hmax : max ((nd : Int) - (dp : Int)) 0 = (nd : Int) - (dp : Int) := by omega
    have hx1 : max (0 : Int) (-(dp : Int)) = 0 := by omega
    have hx2 : min ((nd : Int) - (dp : Int)) 0 = 0 := by omega
    have hx3 : max (0 : Int) ((nd : Int) - (dp : Int)) = (nd : Int) - (dp : Int) := by omega
    go_enter Tryd.func65, Tryd.ntmps65
    go_wp2_with (at_builtin; refine wp_appZ rfl _ _ rfl [45] 1 rfl _ rfl (by decide) ?z HF0.out (by simp) rfl rfl ?_)
    case z => intro z hz; simp at hz; subst hz; decide
    intro va1 wa1 ha1
    have hb1 : FE w0 base B nd f wa1 va1 (toB [45]) := by simpa [toB] using ha1
    have HA1 : Hid (FE w0 base B nd f wa1 va1 (toB [45])) := hb1
    clear ha1 hb1
    go_wp2_with fail
    go_loopg [0, 25, 191] (dp) (fun q d _ i wy => ∃ k : Nat, k + q = dp ∧ i = .int .i64 k ∧ FE w0 base B nd f wy d (toB [45] ++ (List.range k).map f))
    case atStart => exact ⟨0, by omega, rfl, by simpa using HA1.out⟩
    case round =>
      obtain ⟨k2, hq2, rfl, hl2⟩ := hrel
      cases gk with
      | succ q =>
        have hin : (k2 : Int) < (dp : Int) := by omega
        have ck := hl2.2.2.1 (k2) (by omega)
        have HK : Hid (FE w0 base B nd f _ _ (toB [45] ++ (List.range k2).map f)) := hl2
        clear hl2
        go_wp2_with (at_builtin; refine wp_appZ rfl _ _ rfl [((f (k2)).toNat : Int)] 1 rfl _ rfl (by decide) ?z HK.out (by simp [toB] <;> omega) rfl rfl ?_)
        case z => intro z hz; simp at hz; subst hz; have := (f (k2)).toNat_lt; omega
        intro v1 w1 hf1
        have HF5 : Hid (FE w0 base B nd f w1 v1 _) := hf1
        clear hf1
        go_wp2
        go_roundg q
        case measure => omega
        case rel =>
          refine ⟨k2 + 1, by omega, by go_num, ?_⟩
          have := HF5.out
          rw [List.range_succ, List.map_append]
          simpa [toB] using this
      | zero =>
        obtain rfl : dp = k2 := by omega
        have HA2 : Hid (FE w0 base B nd f _ _ (toB [45] ++ (List.range dp).map f)) := hl2
        clear hl2
        go_wp2_with fail
        go_loopg [0, 203] 0 (fun q d i wy => i = .int .i64 0 ∧ FE w0 base B nd f wy d (toB [45] ++ (List.range dp).map f))
        case atStart => exact ⟨rfl, HA2.out⟩
        case round =>
          obtain ⟨rfl, hl3⟩ := hrel
          have HA3 : Hid (FE w0 base B nd f _ _ (toB [45] ++ (List.range dp).map f)) := hl3
          clear hl3
          go_wp2_with (at_builtin; refine wp_appZ rfl _ _ rfl [46] 1 rfl _ rfl (by decide) ?z HA3.out (by simp [toB] <;> omega) rfl rfl ?_)
          case z => intro z hz; simp at hz; subst hz; decide
          intro va4 wa4 ha4
          have hb4 : FE w0 base B nd f wa4 va4 (toB [45] ++ (List.range dp).map f ++ toB [46]) := by simpa [toB] using ha4
          have HA4 : Hid (FE w0 base B nd f wa4 va4 (toB [45] ++ (List.range dp).map f ++ toB [46])) := hb4
          clear ha4 hb4
          go_wp2_with fail
          go_loopg [0, 240] 0 (fun q d i wy => i = .int .i64 0 ∧ FE w0 base B nd f wy d (toB [45] ++ (List.range dp).map f ++ toB [46]))
          case atStart => exact ⟨rfl, HA4.out⟩
          case round =>
            obtain ⟨rfl, hl5⟩ := hrel
            have HA5 : Hid (FE w0 base B nd f _ _ (toB [45] ++ (List.range dp).map f ++ toB [46])) := hl5
            clear hl5
            go_wp2_with fail
            go_loopg [0, 30, 247] (nd - dp) (fun q d _ i wy => ∃ k : Nat, k + q = nd - dp ∧ i = .int .i64 k ∧ FE w0 base B nd f wy d (toB [45] ++ (List.range dp).map f ++ toB [46] ++ (List.range (k)).map fun t => f (dp + t)))
            case atStart => exact ⟨0, by omega, rfl, by simpa using HA5.out⟩
            case round =>
              obtain ⟨k6, hq6, rfl, hl6⟩ := hrel
              cases gk with
              | succ q =>
                have hin : (k6 : Int) < (nd : Int) - (dp : Int) := by omega
                have ck := hl6.2.2.1 (dp + k6) (by omega)
                have HK : Hid (FE w0 base B nd f _ _ (toB [45] ++ (List.range dp).map f ++ toB [46] ++ (List.range (k6)).map fun t => f (dp + t))) := hl6
                clear hl6
                go_wp2_with (at_builtin; refine wp_appZ rfl _ _ rfl [((f (dp + k6)).toNat : Int)] 1 rfl _ rfl (by decide) ?z HK.out (by simp [toB] <;> omega) rfl rfl ?_)
                case z => intro z hz; simp at hz; subst hz; have := (f (dp + k6)).toNat_lt; omega
                intro v1 w1 hf1
                have HF5 : Hid (FE w0 base B nd f w1 v1 _) := hf1
                clear hf1
                go_wp2
                go_roundg q
                case measure => omega
                case rel =>
                  refine ⟨k6 + 1, by omega, by go_num, ?_⟩
                  have := HF5.out
                  rw [List.range_succ, List.map_append]
                  simpa [toB] using this
              | zero =>
                have hkk : k6 = nd - dp := by omega
                rw [hkk] at hl6
                have hki : (k6 : Int) = (nd : Int) - (dp : Int) := by omega
                have HA6 : Hid (FE w0 base B nd f _ _ (toB [45] ++ (List.range dp).map f ++ toB [46] ++ (List.range (nd - dp)).map fun t => f (dp + t))) := hl6
                clear hl6 hkk
                go_wp2_with fail
                go_loopg [0, 261] 0 (fun q d i wy => i = .int .i64 0 ∧ FE w0 base B nd f wy d (toB [45] ++ (List.range dp).map f ++ toB [46] ++ (List.range (nd - dp)).map fun t => f (dp + t)))
                case atStart => exact ⟨rfl, HA6.out⟩
                case round =>
                  obtain ⟨rfl, hl7⟩ := hrel
                  have HA7 : Hid (FE w0 base B nd f _ _ (toB [45] ++ (List.range dp).map f ++ toB [46] ++ (List.range (nd - dp)).map fun t => f (dp + t))) := hl7
                  clear hl7
                  go_wp2_with fail
                  go_ret
                  exact ⟨_, rfl, HA7.out⟩
end Go.Proofs.YtnebmbabfghlaaaDoor
