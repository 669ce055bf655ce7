/- fmtEFG without an exponent, a sign, below one: the text is one, whatever the world. -/
import Derived.Test.YtnebmbabfghlaaaDoorSumsK
import Derived.Deep.LoopGhost
namespace Go.Proofs.YtnebmbabfghlaaaDoor
open Go.RowKit Go.Lib
set_option linter.unusedSimpArgs false
set_option maxRecDepth 20000 in
set_option maxHeartbeats 4000000 in
theorem fmtF_mz1 (f : Nat → UInt8) (nd j : Nat) (hnd2 : nd ≤ 20) (hj : j ≤ 3) (hpos : 0 < nd + j) : ∃ T, ∀ (w0 w : World) (base B : Nat) (v : Value), FE w0 base B nd f w v [] →
    Calls Tryd.prog 65 #[v, .bool true, .slice (some ⟨B, 0, none⟩) 32 32, .int .i64 (-(j : Int)), .int .i64 nd, .int .i64 nd, .int .u8 103, .bool true] w fun e w' => ∃ v', e = .returned v' ∧ FE w0 base B nd f w' v' T := by
  apply Exists.intro
  · intro w0 w base B v hf
    have HF0 : Hid (FE w0 base B nd f w v []) := hf
    clear hf
    have hA : -4 ≤ -(j : Int) - 1 := by omega
    have hB : -(j : Int) - 1 < 6 := by omega
    have hC : -(j : Int) ≤ 0 := by omega
    have hmax : max ((nd : Int) + (j : Int)) 0 = (nd : Int) + (j : Int) := by omega
    have hmax' : max ((nd : Int) - -(j : Int)) 0 = (nd : Int) + (j : Int) := by omega
    have hx0 : max (0 : Int) (j : Int) = (j : Int) := by omega
    have hx1 : min ((nd : Int) + (j : Int)) (j : Int) = (j : Int) := by omega
    have hp : 0 < (nd : Int) + (j : Int) := by omega
    have hs : -(j : Int) + (j : Int) = 0 := by omega
    have hr : (nd : Int) + (j : Int) - (j : Int) = (nd : Int) := by omega
    have hx2 : max (0 : Int) (nd : Int) = (nd : Int) := by omega
    go_enter Tryd.func65, Tryd.ntmps65
    go_wp2_with (at_builtin; refine wp_appZ rfl _ _ rfl [45] 1 rfl _ rfl (by decide) ?z HF0.out (by simp) rfl rfl ?_)
    case z => intro z hz; simp at hz; subst hz; decide
    intro va1 wa1 ha1
    have hb1 : FE w0 base B nd f wa1 va1 (toB [45]) := by simpa [toB] using ha1
    have HA1 : Hid (FE w0 base B nd f wa1 va1 (toB [45])) := hb1
    clear ha1 hb1
    go_wp2_with (at_builtin; refine wp_appZ rfl _ _ rfl [48] 1 rfl _ rfl (by decide) ?z HA1.out (by simp [toB] <;> omega) rfl rfl ?_)
    case z => intro z hz; simp at hz; subst hz; decide
    intro va2 wa2 ha2
    have hb2 : FE w0 base B nd f wa2 va2 (toB [45] ++ toB [48]) := by simpa [toB] using ha2
    have HA2 : Hid (FE w0 base B nd f wa2 va2 (toB [45] ++ toB [48])) := hb2
    clear ha2 hb2
    go_wp2_with (at_builtin; refine wp_appZ rfl _ _ rfl [46] 1 rfl _ rfl (by decide) ?z HA2.out (by simp [toB] <;> omega) rfl rfl ?_)
    case z => intro z hz; simp at hz; subst hz; decide
    intro va3 wa3 ha3
    have hb3 : FE w0 base B nd f wa3 va3 (toB [45] ++ toB [48, 46]) := by simpa [toB] using ha3
    have HA3 : Hid (FE w0 base B nd f wa3 va3 (toB [45] ++ toB [48, 46])) := hb3
    clear ha3 hb3
    go_wp2_with fail
    go_loopg [0, 240] (j) (fun q d i wy => ∃ k : Nat, k + q = j ∧ i = .int .i64 k ∧ FE w0 base B nd f wy d (toB [45] ++ toB [48, 46] ++ List.replicate (k) 48))
    case atStart => exact ⟨0, by omega, rfl, by simpa using HA3.out⟩
    case round =>
      obtain ⟨k4, hq4, rfl, hl4⟩ := hrel
      cases gk with
      | succ q =>
        have hin : (k4 : Int) < (j : Int) := by omega
        have HK : Hid (FE w0 base B nd f _ _ (toB [45] ++ toB [48, 46] ++ List.replicate (k4) 48)) := hl4
        clear hl4
        go_wp2_with (at_builtin; refine wp_appZ rfl _ _ rfl [48] 1 rfl _ rfl (by decide) ?z HK.out (by simp [toB] <;> omega) rfl rfl ?_)
        case z => intro z hz; simp at hz; subst hz; decide
        intro v1 w1 hf1
        have HF5 : Hid (FE w0 base B nd f w1 v1 _) := hf1
        clear hf1
        go_wp2
        go_roundg q
        case measure => omega
        case rel =>
          refine ⟨k4 + 1, by omega, by go_num, ?_⟩
          have := HF5.out
          rw [List.replicate_succ']
          simpa [toB] using this
      | zero =>
        obtain rfl : j = k4 := by omega
        have HA4 : Hid (FE w0 base B nd f _ _ (toB [45] ++ toB [48, 46] ++ List.replicate (j) 48)) := hl4
        clear hl4
        go_wp2_with fail
        go_loopg [0, 30, 247] (nd) (fun q d _ i wy => ∃ k : Nat, k + q = nd ∧ i = .int .i64 k ∧ FE w0 base B nd f wy d (toB [45] ++ toB [48, 46] ++ List.replicate (j) 48 ++ (List.range k).map f))
        case atStart => exact ⟨0, by omega, rfl, by simpa using HA4.out⟩
        case round =>
          obtain ⟨k5, hq5, rfl, hl5⟩ := hrel
          cases gk with
          | succ q =>
            have hin : (k5 : Int) < (nd : Int) := by omega
            have ck := hl5.2.2.1 (k5) (by omega)
            have HK : Hid (FE w0 base B nd f _ _ (toB [45] ++ toB [48, 46] ++ List.replicate (j) 48 ++ (List.range k5).map f)) := hl5
            clear hl5
            go_wp2_with (at_builtin; refine wp_appZ rfl _ _ rfl [((f (k5)).toNat : Int)] 1 rfl _ rfl (by decide) ?z HK.out (by simp [toB] <;> omega) rfl rfl ?_)
            case z => intro z hz; simp at hz; subst hz; have := (f (k5)).toNat_lt; omega
            intro v1 w1 hf1
            have HF5 : Hid (FE w0 base B nd f w1 v1 _) := hf1
            clear hf1
            go_wp2
            go_roundg q
            case measure => omega
            case rel =>
              refine ⟨k5 + 1, by omega, by go_num, ?_⟩
              have := HF5.out
              rw [List.range_succ, List.map_append]
              simpa [toB] using this
          | zero =>
            obtain rfl : nd = k5 := by omega
            have HA5 : Hid (FE w0 base B nd f _ _ (toB [45] ++ toB [48, 46] ++ List.replicate (j) 48 ++ (List.range nd).map f)) := hl5
            clear hl5
            go_wp2_with fail
            go_loopg [0, 261] 0 (fun q d i wy => i = .int .i64 0 ∧ FE w0 base B nd f wy d (toB [45] ++ toB [48, 46] ++ List.replicate (j) 48 ++ (List.range nd).map f))
            case atStart => exact ⟨rfl, HA5.out⟩
            case round =>
              obtain ⟨rfl, hl6⟩ := hrel
              have HA6 : Hid (FE w0 base B nd f _ _ (toB [45] ++ toB [48, 46] ++ List.replicate (j) 48 ++ (List.range nd).map f)) := hl6
              clear hl6
              go_wp2_with fail
              go_ret
              exact ⟨_, rfl, HA6.out⟩
end Go.Proofs.YtnebmbabfghlaaaDoor
