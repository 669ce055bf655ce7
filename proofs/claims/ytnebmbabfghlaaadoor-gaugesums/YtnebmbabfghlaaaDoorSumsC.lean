/- The library's contracts of Len64, numDigits and formatBase10, at this program's numbers; prescale and uscale are determined. -/
import Derived.Shelf.Strconv.Itoa0
import Derived.Shelf.Strconv.Itoa1
import Derived.Shelf.LaysM
import Derived.Shelf.Strconv.Itoa2
import Derived.BigQuiet
import Derived.Test.YtnebmbabfghlaaaDoorSumsB
namespace Go.Proofs.YtnebmbabfghlaaaDoor
section
open Go.Shelf Go.Proofs
def lays129_ren : Go.Shelf.Ren := ⟨fun | 129 => 66 | n => n, fun | 53 => 43 | 3 => 3 | 4 => 4 | 46 => 65 | 5 => 5 | 9 => 9 | n => n, fun | n => n⟩
theorem lays129 : Go.Proofs.Lays.n129 Tryd.prog lays129_ren := {
  mixed := by kernel_rfl
  f129 := Tryd.func66.trans (congrArg some (by kernel_rfl))
  t3 := Tryd.underlying3
  a3 := Tryd.isAgg3
  z3 := Tryd.sizeOf3
  v3 := Tryd.zeroValue3
  t4 := Tryd.underlying4
  a4 := Tryd.isAgg4
  z4 := Tryd.sizeOf4
  v4 := Tryd.zeroValue4
  t5 := Tryd.underlying5
  a5 := Tryd.isAgg5
  z5 := Tryd.sizeOf5
  v5 := Tryd.zeroValue5
  t9 := Tryd.underlying9
  a9 := Tryd.isAgg9
  z9 := Tryd.sizeOf9
  v9 := Tryd.zeroValue9
  t46 := Tryd.underlying65
  a46 := Tryd.isAgg65
  z46 := Tryd.sizeOf65
  v46 := Tryd.zeroValue65
  t53 := Tryd.underlying43
  a53 := Tryd.isAgg43
  z53 := Tryd.sizeOf43
  v53 := Tryd.zeroValue43 }
theorem len64_any (x : Int) (w : World) (h0 : 0 ≤ x) (h1 : x ≤ 18446744073709551615) :
    Calls Tryd.prog 66 #[.int .u64 x] w fun e w' => e = .returned (.int .i64 (Lib.bitLen x.toNat)) ∧ w' = w := Any.bits_Len64 lays129 x w h0 h1
def laysM284_ren : Go.Shelf.Ren := ⟨fun | 284 => 69 | 129 => 66 | 317 => 70 | 318 => 89 | n => n, fun | 53 => 43 | 3 => 3 | 212 => 99 | 0 => 0 | 4 => 4 | 46 => 65 | 5 => 5 | 9 => 9 | n => n, fun | 17 => 2 | n => n⟩
theorem laysM284 : Go.Proofs.LaysM.n284 Tryd.prog laysM284_ren := {
  mixed := by kernel_rfl
  f129 := Tryd.func66.trans (congrArg some (by kernel_rfl))
  f284 := Tryd.func69.trans (congrArg some (by kernel_rfl))
  f317 := Tryd.func70.trans (congrArg some (by kernel_rfl))
  f318 := Tryd.func89.trans (congrArg some (by kernel_rfl))
  t0 := Tryd.underlying0
  a0 := Tryd.isAgg0
  z0 := Tryd.sizeOf0
  v0 := Tryd.zeroValue0
  t3 := Tryd.underlying3
  a3 := Tryd.isAgg3
  z3 := Tryd.sizeOf3
  v3 := Tryd.zeroValue3
  t4 := Tryd.underlying4
  a4 := Tryd.isAgg4
  z4 := Tryd.sizeOf4
  v4 := Tryd.zeroValue4
  t5 := Tryd.underlying5
  a5 := Tryd.isAgg5
  z5 := Tryd.sizeOf5
  v5 := Tryd.zeroValue5
  t9 := Tryd.underlying9
  a9 := Tryd.isAgg9
  z9 := Tryd.sizeOf9
  v9 := Tryd.zeroValue9
  t46 := Tryd.underlying65
  a46 := Tryd.isAgg65
  z46 := Tryd.sizeOf65
  v46 := Tryd.zeroValue65
  t53 := Tryd.underlying43
  a53 := Tryd.isAgg43
  z53 := Tryd.sizeOf43
  v53 := Tryd.zeroValue43
  t212 := Tryd.underlying99
  a212 := Tryd.isAgg99
  z212 := Tryd.sizeOf99
  v212 := Tryd.zeroValue99
  g17 := by kernel_rfl
  i0 := by kernel_rfl
  i3 := by kernel_rfl
  i4 := by kernel_rfl
  i5 := by kernel_rfl
  i9 := by kernel_rfl
  i46 := by kernel_rfl
  i53 := by kernel_rfl
  i212 := by kernel_rfl
  m17 := by kernel_rfl }
theorem numDigits_any (u : Nat) (h1 : 1 ≤ u) (h2 : u < 18446744073709551616) (w : World) (htab : Lib.TabIs Tryd.prog w "internal/strconv.uint64pow10" .u64 Lib.pow10Tab) :
    Calls Tryd.prog 69 #[.int .u64 u] w fun e w' => e = .returned (.int .i64 (Lib.nDigits u)) ∧ w' = w := Any.internal_strconv_numDigits laysM284 u h1 h2 w htab
def lays285_ren : Go.Shelf.Ren := ⟨fun | 285 => 88 | n => n, fun | 37 => 61 | 53 => 43 | 3 => 3 | 4 => 4 | 51 => 66 | 9 => 9 | 5 => 5 | 0 => 0 | n => n, fun | n => n⟩
theorem lays285 : Go.Proofs.Lays.n285 Tryd.prog lays285_ren := {
  mixed := by kernel_rfl
  f285 := Tryd.func88.trans (congrArg some (by kernel_rfl))
  t0 := Tryd.underlying0
  a0 := Tryd.isAgg0
  z0 := Tryd.sizeOf0
  v0 := Tryd.zeroValue0
  t3 := Tryd.underlying3
  a3 := Tryd.isAgg3
  z3 := Tryd.sizeOf3
  v3 := Tryd.zeroValue3
  t4 := Tryd.underlying4
  a4 := Tryd.isAgg4
  z4 := Tryd.sizeOf4
  v4 := Tryd.zeroValue4
  t5 := Tryd.underlying5
  a5 := Tryd.isAgg5
  z5 := Tryd.sizeOf5
  v5 := Tryd.zeroValue5
  t9 := Tryd.underlying9
  a9 := Tryd.isAgg9
  z9 := Tryd.sizeOf9
  v9 := Tryd.zeroValue9
  t37 := Tryd.underlying61
  a37 := Tryd.isAgg61
  z37 := Tryd.sizeOf61
  v37 := Tryd.zeroValue61
  t51 := Tryd.underlying66
  a51 := Tryd.isAgg66
  z51 := Tryd.sizeOf66
  v51 := Tryd.zeroValue66
  t53 := Tryd.underlying43
  a53 := Tryd.isAgg43
  z53 := Tryd.sizeOf43
  v53 := Tryd.zeroValue43 }
open Go.RowKit Go.Sort Go.Lib in
theorem formatBase10_any (blk off cap : Nat) (u : Nat) (d : Array UInt8) (w : World) (hH : Holds (fun (b : UInt8) => Value.int .u8 (b.toNat : Int)) w blk off d) (hu : u < 10 ^ d.size) (hu64 : u < 18446744073709551616) (hsz : d.size < 4611686018427387904) :
    Calls Tryd.prog 88 #[.slice (some ⟨blk, off, none⟩) d.size cap, .int .u64 u] w fun e w' =>
      e = .returned (.tuple #[]) ∧ ∃ (n v' : Nat) (dk : Array UInt8), w' = (putRow (fun (b : UInt8) => Value.int .u8 (b.toNat : Int)) w blk off dk).drewN n ∧ FmtInv d.size u 0 v' dk := Any.internal_strconv_formatBase10 lays285 blk off cap u d w hH hu hu64 hsz
end
open Go.RowKit

/-- A scaler's three cells. -/
def Scal (w : World) (b : Nat) (hi lo s : Int) : Prop := w.cell? ⟨b, 0, none⟩ = some (.int .u64 hi) ∧ w.cell? ⟨b, 1, none⟩ = some (.int .u64 lo) ∧ w.cell? ⟨b, 2, none⟩ = some (.int .i64 s)

theorem u64_shr' (x : Int) (h : U64 x) (k : Nat) : U64 (x / 2 ^ k) := by
  obtain ⟨h0, h1⟩ := h
  have hp : (0 : Int) < 2 ^ k := Int.pow_pos (by decide)
  exact ⟨Int.ediv_nonneg h0 (Int.le_of_lt hp), Int.lt_of_le_of_lt (Int.ediv_le_self _ h0) h1⟩

theorem and_small (s : Int) (m : Nat) (hm : m ≤ 1000000) : 0 ≤ bits .and .i64 s m ∧ bits .and .i64 s m ≤ m := by
  have h1 : (BitVec.ofInt 64 s &&& BitVec.ofInt 64 (m : Int)).toNat ≤ m := by
    rw [BitVec.toNat_and]
    refine Nat.le_trans Nat.and_le_right ?_
    rw [BitVec.toNat_ofInt]
    omega
  have e : bits .and .i64 s m = IntKind.i64.wrap ((BitVec.ofInt 64 s &&& BitVec.ofInt 64 (m : Int)).toNat : Int) := rfl
  rw [e]
  generalize (BitVec.ofInt 64 s &&& BitVec.ofInt 64 (m : Int)).toNat = z at h1
  have e2 : IntKind.i64.wrap (z : Int) = z := by
    unfold IntKind.wrap
    have e3 : (z : Int) % (2 ^ IntKind.i64.bits : Int) = z := by
      show (z : Int) % (2 ^ 64 : Int) = z
      omega
    simp only [e3]
    have e4 : ¬ ((z : Int) ≥ (2 ^ (IntKind.i64.bits - 1) : Int)) := by
      show ¬ ((z : Int) ≥ (2 ^ 63 : Int))
      omega
    simp [e4]
  rw [e2]; omega
theorem u64_bits (op : BinOp) (x y : Int) : U64 (bits op .u64 x y) := u64_wrap _

/-- One or nought. -/
def b2 (b : Bool) : Int := if b then 1 else 0
theorem b2_any (b : Bool) (w : World) : Calls Tryd.prog 101 #[.bool b] w fun e w' => e = .returned (.int .u64 (b2 b)) ∧ w' = w := bool2u_any b w

set_option maxHeartbeats 1000000 in
theorem uscale_any (x hi lo s : Int) (hx : U64 x) (hh : U64 hi) (hl : U64 lo) : ∃ r, (∀ w b, Scal w b hi lo s → Calls Tryd.prog 83 #[.int .u64 x, .pointer (some ⟨b, 0, none⟩)] w fun e w' => e = .returned (.int .u64 r) ∧ ∃ q, w' = w.drewN q) ∧ U64 r := by
  obtain ⟨h1, l1, hm1, uh1, ul1⟩ := mul64_any x hi hx hh
  obtain ⟨h2, l2, hm2, uh2, ul2⟩ := mul64_any x lo hx hl
  have HM1 : Hid _ := hm1
  have HM2 : Hid _ := hm2
  clear hm1 hm2
  obtain ⟨k, hk, k0, k1⟩ : ∃ k : Int, bits .and .i64 s 63 = k ∧ 0 ≤ k ∧ k ≤ 63 := ⟨_, rfl, (and_small s 63 (by decide)).1, (and_small s 63 (by decide)).2⟩
  cases hcb : (IntKind.u64.wrap (h1 / 2 ^ k.toNat * 2 ^ k.toNat) != h1)
  · apply Exists.intro
    refine ⟨fun w b hc => ?_, ?_⟩
    · obtain ⟨c0, c1, c2⟩ := hc
      go_enter Tryd.func83, Tryd.ntmps83
      go_wp2_with fail
      refine Calls.mono (HM1.out _) ?_
      rintro e w1 ⟨rfl, rfl⟩
      go_wp2_with fail
      refine Calls.mono (HM2.out _) ?_
      rintro e w1 ⟨rfl, rfl⟩
      go_wp2_with fail
      refine Calls.mono (b2_any _ _) ?_
      rintro e w1 ⟨rfl, rfl⟩
      go_wp2_with fail
      go_quiet ((go_at_call 101; exact Calls.quiet_of_same (b2_any _ _)))
      go_wp2
      go_ret
      exact ⟨rfl, _, rfl⟩
    · exact u64_bits _ _ _
  · apply Exists.intro
    refine ⟨fun w b hc => ?_, ?_⟩
    · obtain ⟨c0, c1, c2⟩ := hc
      go_enter Tryd.func83, Tryd.ntmps83
      go_wp2_with fail
      refine Calls.mono (HM1.out _) ?_
      rintro e w1 ⟨rfl, rfl⟩
      go_wp2_with fail
      go_ret
      exact ⟨rfl, 0, rfl⟩
    · exact u64_bits _ _ _

end Go.Proofs.YtnebmbabfghlaaaDoor
