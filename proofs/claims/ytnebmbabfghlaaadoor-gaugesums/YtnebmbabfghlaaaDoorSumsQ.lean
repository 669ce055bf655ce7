/- fmtEFG, shortest, 'g': for every sign, digits and place of the point the text is one, whatever the world. -/
import Derived.Test.YtnebmbabfghlaaaDoorSumsL0
import Derived.Test.YtnebmbabfghlaaaDoorSumsL1
import Derived.Test.YtnebmbabfghlaaaDoorSumsL2
import Derived.Test.YtnebmbabfghlaaaDoorSumsM0
import Derived.Test.YtnebmbabfghlaaaDoorSumsM1
import Derived.Test.YtnebmbabfghlaaaDoorSumsM2
import Derived.Test.YtnebmbabfghlaaaDoorSumsP1o
import Derived.Test.YtnebmbabfghlaaaDoorSumsP1m
import Derived.Test.YtnebmbabfghlaaaDoorSumsP2o
import Derived.Test.YtnebmbabfghlaaaDoorSumsP2m
import Derived.Test.YtnebmbabfghlaaaDoorSumsZ1o
import Derived.Test.YtnebmbabfghlaaaDoorSumsZ1m
import Derived.Test.YtnebmbabfghlaaaDoorSumsZ2o
import Derived.Test.YtnebmbabfghlaaaDoorSumsZ2m
namespace Go.Proofs.YtnebmbabfghlaaaDoor
open Go.RowKit Go.Lib
theorem fmt_any (f : Nat → UInt8) (neg : Bool) (nd : Nat) (dp : Int) (hnd : nd ≤ 20) (h0 : -500 ≤ dp) (h1 : dp ≤ 500) : ∃ T, ∀ (w0 w : World) (base B : Nat) (v : Value), FE w0 base B nd f w v [] →
    Calls Tryd.prog 65 #[v, .bool neg, .slice (some ⟨B, 0, none⟩) 32 32, .int .i64 dp, .int .i64 nd, .int .i64 nd, .int .u8 103, .bool true] w fun e w' => ∃ v', e = .returned v' ∧ FE w0 base B nd f w' v' T := by
  by_cases hp : 7 ≤ dp
  · obtain rfl | rfl | hn : nd = 0 ∨ nd = 1 ∨ 2 ≤ nd := by omega
    · cases neg
      · exact fmtE_o0p f dp hp h1
      · exact fmtE_m0p f dp hp h1
    · by_cases a : dp ≤ 10
      · cases neg
        · exact fmtE_o1pa f dp hp a
        · exact fmtE_m1pa f dp hp a
      · by_cases b : dp ≤ 100
        · cases neg
          · exact fmtE_o1pb f dp (by omega) b
          · exact fmtE_m1pb f dp (by omega) b
        · cases neg
          · exact fmtE_o1pc f dp (by omega) h1
          · exact fmtE_m1pc f dp (by omega) h1
    · by_cases a : dp ≤ 10
      · cases neg
        · exact fmtE_o2pa f nd dp hn hnd hp a
        · exact fmtE_m2pa f nd dp hn hnd hp a
      · by_cases b : dp ≤ 100
        · cases neg
          · exact fmtE_o2pb f nd dp hn hnd (by omega) b
          · exact fmtE_m2pb f nd dp hn hnd (by omega) b
        · cases neg
          · exact fmtE_o2pc f nd dp hn hnd (by omega) h1
          · exact fmtE_m2pc f nd dp hn hnd (by omega) h1
  · by_cases hm : dp ≤ -4
    · obtain rfl | rfl | hn : nd = 0 ∨ nd = 1 ∨ 2 ≤ nd := by omega
      · cases neg
        · exact fmtE_o0n f dp h0 hm
        · exact fmtE_m0n f dp h0 hm
      · by_cases a : -8 ≤ dp
        · cases neg
          · exact fmtE_o1na f dp a hm
          · exact fmtE_m1na f dp a hm
        · by_cases b : -98 ≤ dp
          · cases neg
            · exact fmtE_o1nb f dp b (by omega)
            · exact fmtE_m1nb f dp b (by omega)
          · cases neg
            · exact fmtE_o1nc f dp h0 (by omega)
            · exact fmtE_m1nc f dp h0 (by omega)
      · by_cases a : -8 ≤ dp
        · cases neg
          · exact fmtE_o2na f nd dp hn hnd a hm
          · exact fmtE_m2na f nd dp hn hnd a hm
        · by_cases b : -98 ≤ dp
          · cases neg
            · exact fmtE_o2nb f nd dp hn hnd b (by omega)
            · exact fmtE_m2nb f nd dp hn hnd b (by omega)
          · cases neg
            · exact fmtE_o2nc f nd dp hn hnd h0 (by omega)
            · exact fmtE_m2nc f nd dp hn hnd h0 (by omega)
    · by_cases hq : 1 ≤ dp
      · obtain ⟨d, rfl⟩ : ∃ d : Nat, dp = (d : Int) := ⟨dp.toNat, by omega⟩
        by_cases hlt : d < nd
        · cases neg
          · exact fmtF_op1 f nd d hnd (by omega) (by omega) hlt
          · exact fmtF_mp1 f nd d hnd (by omega) (by omega) hlt
        · cases neg
          · exact fmtF_op2 f nd d hnd (by omega) (by omega) (by omega)
          · exact fmtF_mp2 f nd d hnd (by omega) (by omega) (by omega)
      · obtain ⟨j, rfl⟩ : ∃ j : Nat, dp = -(j : Int) := ⟨(-dp).toNat, by omega⟩
        by_cases hpos : 0 < nd + j
        · cases neg
          · exact fmtF_oz1 f nd j hnd (by omega) hpos
          · exact fmtF_mz1 f nd j hnd (by omega) hpos
        · obtain rfl : nd = 0 := by omega
          obtain rfl : j = 0 := by omega
          cases neg
          · exact fmtF_oz2 f
          · exact fmtF_mz2 f
end Go.Proofs.YtnebmbabfghlaaaDoor
