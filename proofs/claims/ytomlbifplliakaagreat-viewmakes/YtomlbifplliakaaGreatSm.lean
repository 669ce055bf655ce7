/- Two rows of changes are the same: the laws' same, at one row twice. -/
import Derived.Test.YtomlbifplliakaaGreatVwI
import Derived.BigQuiet
import Derived.Deep.QuietTactic
namespace Go.Proofs.YtomlbifplliakaaGreat
open Go.RowKit Go.Maps Go.ChangeMaps

theorem fieldsC : Tryz.prog.fieldsOf 47 = #[{ name := "At", type := 3, offset := 0, embedded := false, tag := "", pkgPath := "", byteOffset := 0 },
        { name := "V", type := 35, offset := 1, embedded := false, tag := "", pkgPath := "", byteOffset := 8 }] := by kernel_rfl
theorem eq_chg (x y : Int) (w : World) : (Op.equalIn 10000 47 (.agg #[.int .i64 x, .int .u64 y]) (.agg #[.int .i64 x, .int .u64 y])).run Tryz.prog w = .ok true w := by
  have hp : Tryz.prog.stoodInHeld 47 = false := by kernel_rfl
  rw [run_equalIn_struct w 9999 47 _ _ (by rw [fieldsC]; exact Tryz.underlying47) hp, fieldsC]
  simp [Op.eqFields, go_sem]

set_option maxHeartbeats 1000000 in
theorem same_chgs (a1 a2 : Option Addr) (c1 c2 : Nat) (cs : List Chg) (w : World) (h1 : ChgsAt w a1 cs) (h2 : ChgsAt w a2 cs) (l1 : cs.length ≤ 1000000) :
    Calls Tryz.prog 20 #[.slice a1 cs.length c1, .slice a2 cs.length c2] w fun e w' => e = .returned (.bool true) ∧ Below w.heap.size w w' := by
  have H1 : Hid (ChgsAt w a1 cs) := h1
  have H2 : Hid (ChgsAt w a2 cs) := h2
  obtain ⟨n, hn⟩ : ∃ n, cs.length = n := ⟨_, rfl⟩
  have HN : Hid (cs.length = n) := hn
  rw [hn] at l1 ⊢
  clear h1 h2 hn
  go_enter Tryz.func20, Tryz.ntmps20
  go_wp2
  go_loopw [5] (fun i wr => ∃ k : Nat, k ≤ n ∧ i = .int .i64 k ∧ Hid (Below w.heap.size w wr)) (fun i _ => n - (intOf i).toNat)
  case atStart => exact ⟨0, Nat.zero_le _, rfl, Below.refl _ _⟩
  case round =>
    obtain ⟨k, hk, rfl, HB⟩ := hrel
    by_cases hlt : k < n
    · obtain ⟨b, o, rfl, hb, hc⟩ := H1.out.resolve_left (fun e => by have := HN.out; rw [e] at this; simp at this; omega)
      obtain ⟨b', o', rfl, hb', hc'⟩ := H2.out.resolve_left (fun e => by have := HN.out; rw [e] at this; simp at this; omega)
      have hkl : k < cs.length := by have := HN.out; omega
      have x1 := (HB.out.cell (p := ⟨b, o + k * 2, none⟩) hb).trans (hc k hkl).1
      have x2 := (HB.out.cell (p := ⟨b, o + k * 2 + 1, none⟩) hb).trans (hc k hkl).2
      have y1 := (HB.out.cell (p := ⟨b', o' + k * 2, none⟩) hb').trans (hc' k hkl).1
      have y2 := (HB.out.cell (p := ⟨b', o' + k * 2 + 1, none⟩) hb').trans (hc' k hkl).2
      have hkn : (k : Int) < (n : Int) := by omega
      obtain ⟨X, hX⟩ : ∃ X, (cs.getD k (0, 0)).1 = X := ⟨_, rfl⟩
      obtain ⟨Y, hY⟩ : ∃ Y, (cs.getD k (0, 0)).2 = Y := ⟨_, rfl⟩
      rw [hX] at x1 y1
      rw [hY] at x2 y2
      have he := eq_chg X Y
      clear hX hY hc hc'
      go_wp2
      go_quiet (fail)
      go_wp2
      go_roundw
      case rel => exact ⟨k + 1, by omega, by go_num, below_drewN HB.out _⟩
      case measure => simp [intOf]; omega
    · obtain rfl : k = n := by omega
      go_wp2
      go_ret
      exact ⟨rfl, HB.out⟩

end Go.Proofs.YtomlbifplliakaaGreat
