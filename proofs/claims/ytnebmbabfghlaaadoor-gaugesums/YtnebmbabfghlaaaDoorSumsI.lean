/- setDigits: the digits, and how many are left when the noughts at the end are dropped. -/
import Derived.Test.YtnebmbabfghlaaaDoorSumsE
import Derived.Lib.OwnBridge
import Derived.Lib.ItoaLen
namespace Go.Proofs.YtnebmbabfghlaaaDoor
open Go.RowKit Go.Sort Go.Lib

def bE (b : UInt8) : Value := Value.int .u8 (b.toNat : Int)
/-- How many are left when the noughts at the end are dropped. -/
def trim (f : Nat → UInt8) : Nat → Nat
  | 0 => 0
  | n + 1 => if f n = 48 then trim f n else n + 1
theorem trim_le (f : Nat → UInt8) (n : Nat) : trim f n ≤ n := by
  induction n with
  | zero => exact Nat.le_refl _
  | succ n ih => unfold trim; split <;> omega
/-- The digits of u, n of them. -/
def digs (u n : Nat) (t : Nat) : UInt8 := dg u (n - 1 - t)

theorem putRow_below (w : World) (b : Nat) (d : Array UInt8) : Below b w (putRow (fun (b : UInt8) => Value.int .u8 (b.toNat : Int)) w b 0 d) :=
  ⟨rfl, rfl, rfl, by simp [putRow, mapBlock], fun k hk => by simp [putRow, mapBlock, Array.getElem?_modify, show b ≠ k by omega]⟩

set_option maxHeartbeats 1000000 in
theorem setDigits_any (w : World) (b u n : Nat) (p : Int) (hu : u < 10 ^ n) (hu64 : u < 18446744073709551616) (hn : n ≤ 20) (hp : -400 ≤ p ∧ p ≤ 400) (hH : Holds (fun (b : UInt8) => Value.int .u8 (b.toNat : Int)) w b 0 (Array.replicate n 0)) :
    Calls Tryd.prog 68 #[.slice (some ⟨b, 0, none⟩) 32 32, .int .u64 u, .int .i64 p, .int .i64 n] w fun e w' => e = .returned (.tuple #[.int .i64 (n + p), .int .i64 (trim (digs u n) n : Nat)]) ∧ (∀ t, t < n → w'.cell? ⟨b, t, none⟩ = some (.int .u8 ((digs u n t).toNat : Int))) ∧ Below b w w' := by
  have HF := formatBase10_any b 0 32 u (Array.replicate n 0) w hH (by rw [Array.size_replicate]; exact hu) hu64 (by rw [Array.size_replicate]; omega)
  rw [Array.size_replicate] at HF
  have HFF : Hid _ := HF
  have HH : Hid (Holds (fun (b : UInt8) => Value.int .u8 (b.toNat : Int)) w b 0 (Array.replicate n 0)) := hH
  clear HF hH hu
  go_enter Tryd.func68, Tryd.ntmps68
  have hn32 : (n : Int) ≤ 32 := by omega
  go_wp2_with fail
  refine Calls.mono HFF.out ?_
  rintro en w1 ⟨rfl, q, v', dk, hw1, hI⟩
  have hbw : Below b w w1 := by rw [hw1]; exact below_drewN (putRow_below w b dk) _
  have hcl : ∀ t, t < n → w1.cell? ⟨b, t, none⟩ = some (.int .u8 ((digs u n t).toNat : Int)) := fun t ht => by
    rw [hw1, World.cell?_drewN]
    have h := cell?_putRow (fun (b : UInt8) => Value.int .u8 (b.toNat : Int)) w b 0 _ dk HH.out (by rw [hI.size, Array.size_replicate]) t (by rw [hI.size]; exact ht)
    rw [hI.done t (Nat.zero_le _) ht, Nat.zero_add] at h
    exact h
  have HC : Hid (∀ t, t < n → w1.cell? ⟨b, t, none⟩ = some (.int .u8 ((digs u n t).toNat : Int))) := hcl
  have HB : Hid (Below b w w1) := hbw
  clear hcl hbw hw1 hI
  go_wp2
  go_loopg [3] n (fun g x wr => ∃ k : Nat, k ≤ g ∧ k ≤ n ∧ x = .int .i64 k ∧ Aside (trim (digs u n) k = trim (digs u n) n) ∧ wr = w1)
  case atStart => exact ⟨n, Nat.le_refl _, Nat.le_refl _, rfl, rfl, rfl⟩
  case round =>
    obtain ⟨k, hkg, hkn, rfl, hk, rfl⟩ := hrel
    cases k with
    | zero =>
      go_wp2
      go_ret2
      refine ⟨?_, HC.out, HB.out⟩
      rw [← hk.out]; rfl
    | succ k =>
      have ck := HC.out k (by omega)
      have hk1 : ((k + 1 : Nat) : Int) - 1 = (k : Int) := by omega
      by_cases h48 : digs u n k = 48
      · have hd : ((digs u n k).toNat : Int) = 48 := by rw [h48]; rfl
        rw [hd] at ck
        go_wp2
        cases gk with
        | zero => omega
        | succ g =>
        go_roundg g
        case measure => omega
        case rel => exact ⟨k, by omega, by omega, by go_num, by show _ = _; rw [← hk.out, trim, if_pos h48], rfl⟩
      · have hd : ((digs u n k).toNat : Int) ≠ 48 := by
          intro h
          have h2 : (digs u n k).toNat = (48 : UInt8).toNat := by have e : (48 : UInt8).toNat = 48 := rfl
                                                                  omega
          exact h48 (UInt8.toNat_inj.1 h2)
        have hd2 : (((digs u n k).toNat : Int) == 48) = false := by simpa using hd
        go_wp2
        go_ret2
        refine ⟨?_, HC.out, HB.out⟩
        rw [← hk.out, trim, if_neg h48]; rfl
end Go.Proofs.YtnebmbabfghlaaaDoor
