/- A step of whichever kind. -/
import Derived.Test.YtomlbifplliakaaGreatS6
namespace Go.Proofs.YtomlbifplliakaaGreat
open Go.RowKit Go.Maps Go.ChangeMaps

theorem step_any (w0 w : World) (V : VLay) (S : Vw) (N : Nat) (L : Lay) (M : Mem) (R : RLay) (o : Vop) (P0 : Pair w0 w V S N L M R) (ho : VopIn w0 o) (hN : N < 800000000) :
    Calls Tryz.prog 11 #[.pointer (some ⟨V.vb, 0, none⟩), .pointer (some ⟨R.rb, 0, none⟩), .agg #[.int .i64 o.kind, .int .i64 o.at_, .int .u64 o.v, .int .i64 o.c.k, .int .i64 o.c.l, .int .i64 o.c.s, .int .u64 o.c.v, .int .i64 o.c.d0, .int .i64 o.c.d1, .int .i64 o.c.d2, .int .i64 o.c.d3, .int .i64 o.c.d4, .int .i64 o.c.m, .slice o.la o.ln o.lc, .slice o.na o.nn o.nc]] w fun e w' => SomeBool e ∧ StepPost w0 w V N L M R w' := by
  obtain ⟨q, hq, h1, h2⟩ := place_in o.kind 9 (by omega) (by omega)
  obtain rfl | rfl | rfl | rfl | rfl | rfl | rfl | rfl | rfl : q = 0 ∨ q = 1 ∨ q = 2 ∨ q = 3 ∨ q = 4 ∨ q = 5 ∨ q = 6 ∨ q = 7 ∨ q = 8 := by omega
  · exact step0 w0 w V S N L M R o P0 ho hN (h1.trans rfl) (h2.trans rfl)
  · exact step1 w0 w V S N L M R o P0 ho hN (h1.trans rfl) (h2.trans rfl)
  · exact step2 w0 w V S N L M R o P0 ho hN (h1.trans rfl) (h2.trans rfl)
  · exact step3 w0 w V S N L M R o P0 ho hN (h1.trans rfl) (h2.trans rfl)
  · exact step4 w0 w V S N L M R o P0 ho hN (h1.trans rfl) (h2.trans rfl)
  · exact step5 w0 w V S N L M R o P0 ho hN (h1.trans rfl) (h2.trans rfl)
  · exact step6 w0 w V S N L M R o P0 ho hN (h1.trans rfl) (h2.trans rfl)
  · exact step7 w0 w V S N L M R o P0 ho hN (h1.trans rfl) (h2.trans rfl)
  · exact step8 w0 w V S N L M R o P0 ho hN (h1.trans rfl) (h2.trans rfl)

end Go.Proofs.YtomlbifplliakaaGreat
