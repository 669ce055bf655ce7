/- fmtEFG without an exponent, a sign, no digit at all: the text is one, whatever the world. -/
import Derived.Test.YtnebmbabfghlaaaDoorSumsK
import Derived.Deep.LoopGhost
namespace Go.Proofs.YtnebmbabfghlaaaDoor
open Go.RowKit Go.Lib
set_option linter.unusedSimpArgs false
set_option maxRecDepth 20000 in
set_option maxHeartbeats 4000000 in
theorem fmtF_mz2 (f : Nat → UInt8) : ∃ T, ∀ (w0 w : World) (base B : Nat) (v : Value), FE w0 base B 0 f w v [] →
    Calls Tryd.prog 65 #[v, .bool true, .slice (some ⟨B, 0, none⟩) 32 32, .int .i64 0, .int .i64 0, .int .i64 0, .int .u8 103, .bool true] w fun e w' => ∃ v', e = .returned v' ∧ FE w0 base B 0 f w' v' T := by
  apply Exists.intro
  · intro w0 w base B v hf
    have HF0 : Hid (FE w0 base B 0 f w v []) := hf
    clear hf
    go_enter Tryd.func65, Tryd.ntmps65
    go_wp2_with (at_builtin; refine wp_appZ rfl _ _ rfl [45] 1 rfl _ rfl (by decide) ?z HF0.out (by simp) rfl rfl ?_)
    case z => intro z hz; simp at hz; subst hz; decide
    intro va1 wa1 ha1
    have hb1 : FE w0 base B 0 f wa1 va1 (toB [45]) := by simpa [toB] using ha1
    have HA1 : Hid (FE w0 base B 0 f wa1 va1 (toB [45])) := hb1
    clear ha1 hb1
    go_wp2_with (at_builtin; refine wp_appZ rfl _ _ rfl [48] 1 rfl _ rfl (by decide) ?z HA1.out (by simp [toB] <;> omega) rfl rfl ?_)
    case z => intro z hz; simp at hz; subst hz; decide
    intro va2 wa2 ha2
    have hb2 : FE w0 base B 0 f wa2 va2 (toB [45] ++ toB [48]) := by simpa [toB] using ha2
    have HA2 : Hid (FE w0 base B 0 f wa2 va2 (toB [45] ++ toB [48])) := hb2
    clear ha2 hb2
    go_wp2_with fail
    go_ret
    exact ⟨_, rfl, HA2.out⟩
end Go.Proofs.YtnebmbabfghlaaaDoor
