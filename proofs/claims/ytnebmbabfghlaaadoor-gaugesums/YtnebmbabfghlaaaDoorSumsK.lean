/- Bytes as numbers. -/
import Derived.Test.YtnebmbabfghlaaaDoorSumsJ
namespace Go.Proofs.YtnebmbabfghlaaaDoor
open Go.RowKit Go.Lib

def toB (zs : List Int) : List UInt8 := zs.map fun z => UInt8.ofNat z.toNat
theorem toB_row (zs : List Int) (h : ∀ z ∈ zs, 0 ≤ z ∧ z < 256) : (zs.map (Value.int .u8)).toArray = (bRow (toB zs)).toArray := by
  congr 1
  unfold bRow toB
  rw [List.map_map]
  apply List.map_congr_left
  intro z hz
  have := h z hz
  simp only [Function.comp]
  congr 1
  rw [UInt8.toNat_ofNat']
  omega
/-- The walk over append(dst, z0, ..), of numbers that are bytes. -/
theorem wp_appZ {ops : Array Oper} {rest : List Oper} {o : Oper} {a : Act} {Q : Exit → Act → World → Prop} (hgd : o.guard = none) (s x : Operand)
    (ho : o.op = .call { callee := .builtin .append, args := #[s, x], argTypes := #[61, 61] }) {w0 W : World} {base B nd : Nat} {f : Nat → UInt8} {v : Value} {L : List UInt8} (zs : List Int) (m : Nat) (hm : zs.length = m) (cs : Array Value) (hcs : cs = (zs.map (Value.int .u8)).toArray) (hm9 : m ≤ 9) (hz : ∀ z ∈ zs, 0 ≤ z ∧ z < 256)
    (hf : FE w0 base B nd f W v L) (hL : L.length ≤ 900) (hs : a.eval s = v) (hx : a.eval x = .slice (some ⟨W.heap.size, 0, none⟩) m m)
    (h : ∀ v' w', FE w0 base B nd f w' v' (L ++ toB zs) → wpList Tryd.prog ops Q rest (a.put o.dst v') w') :
    wpList Tryd.prog ops Q (o :: rest) a (W.alloc (.cells cs 5)) :=
  wp_appN hgd s x ho (toB zs) m (by rw [toB, List.length_map, hm]) cs (hcs.trans (toB_row zs hz)) hm9 hf hL hs hx h

theorem u8_wrap (x : Int) : 0 ≤ IntKind.u8.wrap x ∧ IntKind.u8.wrap x < 256 := by
  have h : IntKind.u8.wrap x = x % 256 := by simp [IntKind.wrap]; rfl
  rw [h]; omega
end Go.Proofs.YtnebmbabfghlaaaDoor
