/- fmtEFG with an exponent, no sign, one digit: the text is one, whatever the world. -/
import Derived.Test.YtnebmbabfghlaaaDoorSumsK
import Derived.Deep.LoopGhost
namespace Go.Proofs.YtnebmbabfghlaaaDoor
open Go.RowKit Go.Lib
set_option maxRecDepth 20000 in
set_option maxHeartbeats 4000000 in
theorem fmtE_o1pa (f : Nat → UInt8) (dp : Int) (h0 : 7 ≤ dp) (h1 : dp ≤ 10) : ∃ T, ∀ (w0 w : World) (base B : Nat) (v : Value), FE w0 base B 1 f w v [] →
    Calls Tryd.prog 65 #[v, .bool false, .slice (some ⟨B, 0, none⟩) 32 32, .int .i64 dp, .int .i64 1, .int .i64 1, .int .u8 103, .bool true] w fun e w' => ∃ v', e = .returned v' ∧ FE w0 base B 1 f w' v' T := by
  apply Exists.intro
  · intro w0 w base B v hf
    have hA : -4 ≤ dp - 1 := by omega
    have hB : 6 ≤ dp - 1 := by omega
    have c0 := hf.2.2.1 0 (by omega)
    have HF0 : Hid (FE w0 base B 1 f w v []) := hf
    clear hf
    go_enter Tryd.func65, Tryd.ntmps65
    go_wp2_with (at_builtin; refine wp_appZ rfl _ _ rfl [((f 0).toNat : Int)] 1 rfl _ rfl (by decide) ?z HF0.out (by simp) rfl rfl ?_)
    case z => intro z hz; simp at hz; subst hz; have := (f 0).toNat_lt; omega
    intro v1 w1 hf1
    have HF1 : Hid (FE w0 base B 1 f w1 v1 _) := hf1
    clear hf1
    go_wp2_with (at_builtin; refine wp_appZ rfl _ _ rfl [101] 1 rfl _ rfl (by decide) ?z HF1.out (by simp [toB] <;> omega) rfl rfl ?_)
    case z => intro z hz; simp at hz; subst hz; decide
    intro v2 w2 hf2
    have HF2 : Hid (FE w0 base B 1 f w2 v2 _) := hf2
    clear hf2
    go_wp2_with (at_builtin; refine wp_appZ rfl _ _ rfl [43] 1 rfl _ rfl (by decide) ?z HF2.out (by simp [toB] <;> omega) rfl rfl ?_)
    case z => intro z hz; simp at hz; subst hz; decide
    intro v3 w3 hf3
    have HF3 : Hid (FE w0 base B 1 f w3 v3 _) := hf3
    clear hf3
    go_wp2_with (at_builtin; refine wp_appZ rfl _ _ rfl [_, _] 2 rfl _ rfl (by decide) ?z HF3.out (by simp [toB] <;> omega) rfl rfl ?_)
    case z =>
      intro z hz
      simp only [List.mem_cons, List.not_mem_nil, or_false] at hz
      rcases hz with rfl | rfl <;> first | omega | exact u8_wrap _ | decide
    intro v4 w4 hf4
    have HF4 : Hid (FE w0 base B 1 f w4 v4 _) := hf4
    clear hf4
    go_wp2_with fail
    go_ret
    exact ⟨_, rfl, HF4.out⟩
set_option maxRecDepth 20000 in
set_option maxHeartbeats 4000000 in
theorem fmtE_o1pb (f : Nat → UInt8) (dp : Int) (h0 : 11 ≤ dp) (h1 : dp ≤ 100) : ∃ T, ∀ (w0 w : World) (base B : Nat) (v : Value), FE w0 base B 1 f w v [] →
    Calls Tryd.prog 65 #[v, .bool false, .slice (some ⟨B, 0, none⟩) 32 32, .int .i64 dp, .int .i64 1, .int .i64 1, .int .u8 103, .bool true] w fun e w' => ∃ v', e = .returned v' ∧ FE w0 base B 1 f w' v' T := by
  apply Exists.intro
  · intro w0 w base B v hf
    have hA : -4 ≤ dp - 1 := by omega
    have hB : 6 ≤ dp - 1 := by omega
    have c0 := hf.2.2.1 0 (by omega)
    have HF0 : Hid (FE w0 base B 1 f w v []) := hf
    clear hf
    go_enter Tryd.func65, Tryd.ntmps65
    go_wp2_with (at_builtin; refine wp_appZ rfl _ _ rfl [((f 0).toNat : Int)] 1 rfl _ rfl (by decide) ?z HF0.out (by simp) rfl rfl ?_)
    case z => intro z hz; simp at hz; subst hz; have := (f 0).toNat_lt; omega
    intro v1 w1 hf1
    have HF1 : Hid (FE w0 base B 1 f w1 v1 _) := hf1
    clear hf1
    go_wp2_with (at_builtin; refine wp_appZ rfl _ _ rfl [101] 1 rfl _ rfl (by decide) ?z HF1.out (by simp [toB] <;> omega) rfl rfl ?_)
    case z => intro z hz; simp at hz; subst hz; decide
    intro v2 w2 hf2
    have HF2 : Hid (FE w0 base B 1 f w2 v2 _) := hf2
    clear hf2
    go_wp2_with (at_builtin; refine wp_appZ rfl _ _ rfl [43] 1 rfl _ rfl (by decide) ?z HF2.out (by simp [toB] <;> omega) rfl rfl ?_)
    case z => intro z hz; simp at hz; subst hz; decide
    intro v3 w3 hf3
    have HF3 : Hid (FE w0 base B 1 f w3 v3 _) := hf3
    clear hf3
    go_wp2_with (at_builtin; refine wp_appZ rfl _ _ rfl [_, _] 2 rfl _ rfl (by decide) ?z HF3.out (by simp [toB] <;> omega) rfl rfl ?_)
    case z =>
      intro z hz
      simp only [List.mem_cons, List.not_mem_nil, or_false] at hz
      rcases hz with rfl | rfl <;> first | omega | exact u8_wrap _ | decide
    intro v4 w4 hf4
    have HF4 : Hid (FE w0 base B 1 f w4 v4 _) := hf4
    clear hf4
    go_wp2_with fail
    go_ret
    exact ⟨_, rfl, HF4.out⟩
set_option maxRecDepth 20000 in
set_option maxHeartbeats 4000000 in
theorem fmtE_o1pc (f : Nat → UInt8) (dp : Int) (h0 : 101 ≤ dp) (h1 : dp ≤ 500) : ∃ T, ∀ (w0 w : World) (base B : Nat) (v : Value), FE w0 base B 1 f w v [] →
    Calls Tryd.prog 65 #[v, .bool false, .slice (some ⟨B, 0, none⟩) 32 32, .int .i64 dp, .int .i64 1, .int .i64 1, .int .u8 103, .bool true] w fun e w' => ∃ v', e = .returned v' ∧ FE w0 base B 1 f w' v' T := by
  apply Exists.intro
  · intro w0 w base B v hf
    have hA : -4 ≤ dp - 1 := by omega
    have hB : 6 ≤ dp - 1 := by omega
    have c0 := hf.2.2.1 0 (by omega)
    have HF0 : Hid (FE w0 base B 1 f w v []) := hf
    clear hf
    go_enter Tryd.func65, Tryd.ntmps65
    go_wp2_with (at_builtin; refine wp_appZ rfl _ _ rfl [((f 0).toNat : Int)] 1 rfl _ rfl (by decide) ?z HF0.out (by simp) rfl rfl ?_)
    case z => intro z hz; simp at hz; subst hz; have := (f 0).toNat_lt; omega
    intro v1 w1 hf1
    have HF1 : Hid (FE w0 base B 1 f w1 v1 _) := hf1
    clear hf1
    go_wp2_with (at_builtin; refine wp_appZ rfl _ _ rfl [101] 1 rfl _ rfl (by decide) ?z HF1.out (by simp [toB] <;> omega) rfl rfl ?_)
    case z => intro z hz; simp at hz; subst hz; decide
    intro v2 w2 hf2
    have HF2 : Hid (FE w0 base B 1 f w2 v2 _) := hf2
    clear hf2
    go_wp2_with (at_builtin; refine wp_appZ rfl _ _ rfl [43] 1 rfl _ rfl (by decide) ?z HF2.out (by simp [toB] <;> omega) rfl rfl ?_)
    case z => intro z hz; simp at hz; subst hz; decide
    intro v3 w3 hf3
    have HF3 : Hid (FE w0 base B 1 f w3 v3 _) := hf3
    clear hf3
    go_wp2_with (at_builtin; refine wp_appZ rfl _ _ rfl [_, _, _] 3 rfl _ rfl (by decide) ?z HF3.out (by simp [toB] <;> omega) rfl rfl ?_)
    case z =>
      intro z hz
      simp only [List.mem_cons, List.not_mem_nil, or_false] at hz
      rcases hz with rfl | rfl | rfl <;> first | omega | exact u8_wrap _ | decide
    intro v4 w4 hf4
    have HF4 : Hid (FE w0 base B 1 f w4 v4 _) := hf4
    clear hf4
    go_wp2_with fail
    go_ret
    exact ⟨_, rfl, HF4.out⟩
set_option maxRecDepth 20000 in
set_option maxHeartbeats 4000000 in
theorem fmtE_o1na (f : Nat → UInt8) (dp : Int) (h0 : -8 ≤ dp) (h1 : dp ≤ -4) : ∃ T, ∀ (w0 w : World) (base B : Nat) (v : Value), FE w0 base B 1 f w v [] →
    Calls Tryd.prog 65 #[v, .bool false, .slice (some ⟨B, 0, none⟩) 32 32, .int .i64 dp, .int .i64 1, .int .i64 1, .int .u8 103, .bool true] w fun e w' => ∃ v', e = .returned v' ∧ FE w0 base B 1 f w' v' T := by
  apply Exists.intro
  · intro w0 w base B v hf
    have hA : dp - 1 < -4 := by omega
    have c0 := hf.2.2.1 0 (by omega)
    have HF0 : Hid (FE w0 base B 1 f w v []) := hf
    clear hf
    go_enter Tryd.func65, Tryd.ntmps65
    go_wp2_with (at_builtin; refine wp_appZ rfl _ _ rfl [((f 0).toNat : Int)] 1 rfl _ rfl (by decide) ?z HF0.out (by simp) rfl rfl ?_)
    case z => intro z hz; simp at hz; subst hz; have := (f 0).toNat_lt; omega
    intro v1 w1 hf1
    have HF1 : Hid (FE w0 base B 1 f w1 v1 _) := hf1
    clear hf1
    go_wp2_with (at_builtin; refine wp_appZ rfl _ _ rfl [101] 1 rfl _ rfl (by decide) ?z HF1.out (by simp [toB] <;> omega) rfl rfl ?_)
    case z => intro z hz; simp at hz; subst hz; decide
    intro v2 w2 hf2
    have HF2 : Hid (FE w0 base B 1 f w2 v2 _) := hf2
    clear hf2
    go_wp2_with (at_builtin; refine wp_appZ rfl _ _ rfl [45] 1 rfl _ rfl (by decide) ?z HF2.out (by simp [toB] <;> omega) rfl rfl ?_)
    case z => intro z hz; simp at hz; subst hz; decide
    intro v3 w3 hf3
    have HF3 : Hid (FE w0 base B 1 f w3 v3 _) := hf3
    clear hf3
    go_wp2_with (at_builtin; refine wp_appZ rfl _ _ rfl [_, _] 2 rfl _ rfl (by decide) ?z HF3.out (by simp [toB] <;> omega) rfl rfl ?_)
    case z =>
      intro z hz
      simp only [List.mem_cons, List.not_mem_nil, or_false] at hz
      rcases hz with rfl | rfl <;> first | omega | exact u8_wrap _ | decide
    intro v4 w4 hf4
    have HF4 : Hid (FE w0 base B 1 f w4 v4 _) := hf4
    clear hf4
    go_wp2_with fail
    go_ret
    exact ⟨_, rfl, HF4.out⟩
set_option maxRecDepth 20000 in
set_option maxHeartbeats 4000000 in
theorem fmtE_o1nb (f : Nat → UInt8) (dp : Int) (h0 : -98 ≤ dp) (h1 : dp ≤ -9) : ∃ T, ∀ (w0 w : World) (base B : Nat) (v : Value), FE w0 base B 1 f w v [] →
    Calls Tryd.prog 65 #[v, .bool false, .slice (some ⟨B, 0, none⟩) 32 32, .int .i64 dp, .int .i64 1, .int .i64 1, .int .u8 103, .bool true] w fun e w' => ∃ v', e = .returned v' ∧ FE w0 base B 1 f w' v' T := by
  apply Exists.intro
  · intro w0 w base B v hf
    have hA : dp - 1 < -4 := by omega
    have c0 := hf.2.2.1 0 (by omega)
    have HF0 : Hid (FE w0 base B 1 f w v []) := hf
    clear hf
    go_enter Tryd.func65, Tryd.ntmps65
    go_wp2_with (at_builtin; refine wp_appZ rfl _ _ rfl [((f 0).toNat : Int)] 1 rfl _ rfl (by decide) ?z HF0.out (by simp) rfl rfl ?_)
    case z => intro z hz; simp at hz; subst hz; have := (f 0).toNat_lt; omega
    intro v1 w1 hf1
    have HF1 : Hid (FE w0 base B 1 f w1 v1 _) := hf1
    clear hf1
    go_wp2_with (at_builtin; refine wp_appZ rfl _ _ rfl [101] 1 rfl _ rfl (by decide) ?z HF1.out (by simp [toB] <;> omega) rfl rfl ?_)
    case z => intro z hz; simp at hz; subst hz; decide
    intro v2 w2 hf2
    have HF2 : Hid (FE w0 base B 1 f w2 v2 _) := hf2
    clear hf2
    go_wp2_with (at_builtin; refine wp_appZ rfl _ _ rfl [45] 1 rfl _ rfl (by decide) ?z HF2.out (by simp [toB] <;> omega) rfl rfl ?_)
    case z => intro z hz; simp at hz; subst hz; decide
    intro v3 w3 hf3
    have HF3 : Hid (FE w0 base B 1 f w3 v3 _) := hf3
    clear hf3
    go_wp2_with (at_builtin; refine wp_appZ rfl _ _ rfl [_, _] 2 rfl _ rfl (by decide) ?z HF3.out (by simp [toB] <;> omega) rfl rfl ?_)
    case z =>
      intro z hz
      simp only [List.mem_cons, List.not_mem_nil, or_false] at hz
      rcases hz with rfl | rfl <;> first | omega | exact u8_wrap _ | decide
    intro v4 w4 hf4
    have HF4 : Hid (FE w0 base B 1 f w4 v4 _) := hf4
    clear hf4
    go_wp2_with fail
    go_ret
    exact ⟨_, rfl, HF4.out⟩
set_option maxRecDepth 20000 in
set_option maxHeartbeats 4000000 in
theorem fmtE_o1nc (f : Nat → UInt8) (dp : Int) (h0 : -500 ≤ dp) (h1 : dp ≤ -99) : ∃ T, ∀ (w0 w : World) (base B : Nat) (v : Value), FE w0 base B 1 f w v [] →
    Calls Tryd.prog 65 #[v, .bool false, .slice (some ⟨B, 0, none⟩) 32 32, .int .i64 dp, .int .i64 1, .int .i64 1, .int .u8 103, .bool true] w fun e w' => ∃ v', e = .returned v' ∧ FE w0 base B 1 f w' v' T := by
  apply Exists.intro
  · intro w0 w base B v hf
    have hA : dp - 1 < -4 := by omega
    have c0 := hf.2.2.1 0 (by omega)
    have HF0 : Hid (FE w0 base B 1 f w v []) := hf
    clear hf
    go_enter Tryd.func65, Tryd.ntmps65
    go_wp2_with (at_builtin; refine wp_appZ rfl _ _ rfl [((f 0).toNat : Int)] 1 rfl _ rfl (by decide) ?z HF0.out (by simp) rfl rfl ?_)
    case z => intro z hz; simp at hz; subst hz; have := (f 0).toNat_lt; omega
    intro v1 w1 hf1
    have HF1 : Hid (FE w0 base B 1 f w1 v1 _) := hf1
    clear hf1
    go_wp2_with (at_builtin; refine wp_appZ rfl _ _ rfl [101] 1 rfl _ rfl (by decide) ?z HF1.out (by simp [toB] <;> omega) rfl rfl ?_)
    case z => intro z hz; simp at hz; subst hz; decide
    intro v2 w2 hf2
    have HF2 : Hid (FE w0 base B 1 f w2 v2 _) := hf2
    clear hf2
    go_wp2_with (at_builtin; refine wp_appZ rfl _ _ rfl [45] 1 rfl _ rfl (by decide) ?z HF2.out (by simp [toB] <;> omega) rfl rfl ?_)
    case z => intro z hz; simp at hz; subst hz; decide
    intro v3 w3 hf3
    have HF3 : Hid (FE w0 base B 1 f w3 v3 _) := hf3
    clear hf3
    go_wp2_with (at_builtin; refine wp_appZ rfl _ _ rfl [_, _, _] 3 rfl _ rfl (by decide) ?z HF3.out (by simp [toB] <;> omega) rfl rfl ?_)
    case z =>
      intro z hz
      simp only [List.mem_cons, List.not_mem_nil, or_false] at hz
      rcases hz with rfl | rfl | rfl <;> first | omega | exact u8_wrap _ | decide
    intro v4 w4 hf4
    have HF4 : Hid (FE w0 base B 1 f w4 v4 _) := hf4
    clear hf4
    go_wp2_with fail
    go_ret
    exact ⟨_, rfl, HF4.out⟩
end Go.Proofs.YtnebmbabfghlaaaDoor
