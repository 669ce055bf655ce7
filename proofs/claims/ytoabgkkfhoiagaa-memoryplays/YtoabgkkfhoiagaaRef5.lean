/- The document's memory: Image and Loose. -/
import Derived.Test.YtoabgkkfhoiagaaRef4
namespace Go.Proofs.Ytoabgkkfhoiagaa
open Go.RowKit Go.Maps Go.ChangeMaps

theorem Try.info3 : (Try.prog.info? 3).map (fun i => (i.zero, i.size, i.bytes)) = some (some (.int .i64 0), 1, 8) := by kernel_rfl

def nowTo (R : Nat → RW) (t : Nat) : List Int := (List.range t).map fun i => (R i).now
theorem nowTo_snoc (R : Nat → RW) (t : Nat) : nowTo R (t + 1) = nowTo R t ++ [(R t).now] := by simp [nowTo, List.range_succ]
theorem nowTo_all {M : Mem} {R : Nat → RW} (hW : Words M R) : nowTo R M.sure.length = M.image := by
  unfold nowTo Mem.image
  exact List.map_congr_left fun i hi => hW.now i (List.mem_range.1 hi)

set_option maxHeartbeats 1000000 in
theorem image_ref (L : RLay) (M : Mem) (w : World) (H : RefIs w L M) :
    Calls Try.prog 22 #[.pointer (some ⟨L.rb, 0, none⟩)] w fun e w' => ∃ v, e = .returned v ∧ w'.ownsRow w.heap.size 32 1 v M.sure.length (M.image.map (Value.int .u64)) ∧ Below w.heap.size w w' := by
  obtain ⟨i0, hi, hz0, hz1, hz2⟩ := info_parts Try.info32
  obtain ⟨R, hR, hW, hS⟩ := H
  have hlen := hR.len
  have hall := hR.all_lt
  have HI : Hid (nowTo R M.sure.length = M.image) := nowTo_all hW
  clear hW hS
  go_enter Try.func22, Try.ntmps22
  go_wp2
  go_loopw [3, 4] (fun v i wr => ∃ t : Nat, t ≤ M.sure.length ∧ i = .int .i64 t ∧ wr.ownsRow w.heap.size 32 1 v t ((nowTo R t).map (Value.int .u64)) ∧ Below w.heap.size w wr) (fun _ i _ => M.sure.length - (intOf i).toNat)
  case atStart => exact ⟨0, Nat.zero_le _, rfl, World.ownsRow_nil _ _ _ _, Below.refl _ _⟩
  case round =>
    obtain ⟨t, ht, rfl, hown, hnx⟩ := hrel
    have hA : RefAt wr L M.sure.length R M.calls (haltOf M) := hR.of_blocks fun k hk _ => hnx.block k (hall k hk)
    by_cases hlt : t < M.sure.length
    · have hti : (t : Int) < (M.sure.length : Int) := by omega
      have e := hA.some_of_pos (Nat.zero_lt_of_lt hlt)
      have c0 := hA.c0
      rw [e] at c0
      have cn := hA.cell t 1 hlt (by omega)
      simp only [fld] at cn
      have HSN : Hid (nowTo R (t + 1) = nowTo R t ++ [(R t).now]) := nowTo_snoc R t
      generalize (R t).now = nv at *
      clear hA
      go_wp2_with (first
        | (at_builtin; refine wpList_append_own _ rfl _ _ 45 rfl w.heap.size 32 i0 (.int .u64 0) 1 8 Try.underlying45 hi hz0 hz1 hz2 rfl (by decide) _ _ _ rfl (hown.alloc _) ⟨_, 0, none⟩ 1 1 [.int .u64 nv] rfl rfl ?c1 ?c2 ?c3 ?c4 ?c5 ?_)
        | go_in)
      case c1 =>
        intro j u hj
        match j, hj with
        | 0, hj => simp at hj; subst hj; simp [Addr.add]
      case c2 => intro u hu; simp at hu; subst hu; rfl
      case c3 => unfold maxLen; omega
      case c4 => omega
      case c5 => have := hnx.size; simp; omega
      intro v' w1 hown' hgrow _
      have hnx1 : Below w.heap.size w w1 := (hnx.alloc hnx.size _).grown hgrow (by have := hnx.size; simp; omega) (fun j h => (hown.lt j h).1)
      have hown2 : w1.ownsRow w.heap.size 32 1 v' (t + 1) ((nowTo R (t + 1)).map (Value.int .u64)) := by rw [HSN.out, List.map_append]; exact hown'
      clear hgrow hown hown'
      go_wp2
      go_roundw
      case rel => exact ⟨t + 1, by omega, by go_num, hown2, hnx1⟩
      case measure => simp [intOf]; omega
    · obtain rfl : t = M.sure.length := by omega
      have c0 := hA.c0
      go_wp2
      go_ret
      exact ⟨_, rfl, by rw [← HI.out]; exact hown, hnx⟩

def looseL (R : Nat → RW) (t : Nat) : List Int := ((List.range t).filter fun i => (R i).loose).map Int.ofNat
theorem looseL_hit (R : Nat → RW) (t : Nat) (h : (R t).loose = true) : looseL R (t + 1) = looseL R t ++ [(t : Int)] := by
  simp [looseL, List.range_succ, List.filter_append, h]
theorem looseL_miss (R : Nat → RW) (t : Nat) (h : (R t).loose = false) : looseL R (t + 1) = looseL R t := by
  simp [looseL, List.range_succ, List.filter_append, h]
theorem looseL_len (R : Nat → RW) (t : Nat) : (looseL R t).length ≤ t := by
  unfold looseL
  rw [List.length_map]
  exact Nat.le_trans (List.length_filter_le _ _) (by simp)
theorem looseL_all {M : Mem} {R : Nat → RW} (hW : Words M R) : looseL R M.sure.length = M.keys := by
  unfold looseL Mem.keys
  congr 1
  exact List.filter_congr fun i hi => hW.loose i (List.mem_range.1 hi)

set_option maxHeartbeats 1000000 in
theorem looseAt_ref (L : RLay) (n c : Nat) (hh : Int) (R : Nat → RW) (w : World) (hR : RefAt w L n R c hh) :
    Calls Try.prog 19 #[.pointer (some ⟨L.rb, 0, none⟩)] w fun e w' => ∃ v, e = .returned v ∧ w'.ownsRow w.heap.size 3 1 v (looseL R n).length ((looseL R n).map (Value.int .i64)) ∧ Below w.heap.size w w' := by
  obtain ⟨i0, hi, hz0, hz1, hz2⟩ := info_parts Try.info3
  have hlen := hR.len
  have hall := hR.all_lt
  go_enter Try.func19, Try.ntmps19
  go_wp2
  go_loopw [3, 4] (fun v i wr => ∃ t : Nat, t ≤ n ∧ i = .int .i64 t ∧ wr.ownsRow w.heap.size 3 1 v (looseL R t).length ((looseL R t).map (Value.int .i64)) ∧ Below w.heap.size w wr) (fun _ i _ => n - (intOf i).toNat)
  case atStart => exact ⟨0, Nat.zero_le _, rfl, World.ownsRow_nil _ _ _ _, Below.refl _ _⟩
  case round =>
    obtain ⟨t, ht, rfl, hown, hnx⟩ := hrel
    have hA : RefAt wr L n R c hh := hR.of_blocks fun k hk _ => hnx.block k (hall k hk)
    by_cases hlt : t < n
    · have hti : (t : Int) < (n : Int) := by omega
      have e := hA.some_of_pos (Nat.zero_lt_of_lt hlt)
      have c0 := hA.c0
      rw [e] at c0
      have cn := hA.cell t 3 hlt (by omega)
      simp only [fld] at cn
      have hll := looseL_len R t
      cases hl : (R t).loose with
      | false =>
        have HSN : Hid (looseL R (t + 1) = looseL R t) := looseL_miss R t hl
        rw [hl] at cn
        clear hA hl
        go_wp2
        go_roundw
        case rel => exact ⟨t + 1, by omega, by go_num, by rw [HSN.out]; exact hown, hnx⟩
        case measure => simp [intOf]; omega
      | true =>
        have HSN : Hid (looseL R (t + 1) = looseL R t ++ [(t : Int)]) := looseL_hit R t hl
        rw [hl] at cn
        clear hA hl
        go_wp2_with (first
          | (at_builtin; refine wpList_append_own _ rfl _ _ 42 rfl w.heap.size 3 i0 (.int .i64 0) 1 8 Try.underlying42 hi hz0 hz1 hz2 rfl (by decide) _ _ _ rfl (hown.alloc _) ⟨_, 0, none⟩ 1 1 [.int .i64 t] rfl rfl ?c1 ?c2 ?c3 ?c4 ?c5 ?_)
          | go_in)
        case c1 =>
          intro j u hj
          match j, hj with
          | 0, hj => simp at hj; subst hj; simp [Addr.add]
        case c2 => intro u hu; simp at hu; subst hu; rfl
        case c3 => unfold maxLen; omega
        case c4 => omega
        case c5 => have := hnx.size; simp; omega
        intro v' w1 hown' hgrow _
        have hnx1 : Below w.heap.size w w1 := (hnx.alloc hnx.size _).grown hgrow (by have := hnx.size; simp; omega) (fun j h => (hown.lt j h).1)
        have hown2 : w1.ownsRow w.heap.size 3 1 v' (looseL R (t + 1)).length ((looseL R (t + 1)).map (Value.int .i64)) := by rw [HSN.out, List.map_append, List.length_append]; exact hown'
        clear hgrow hown hown'
        go_wp2
        go_roundw
        case rel => exact ⟨t + 1, by omega, by go_num, hown2, hnx1⟩
        case measure => simp [intOf]; omega
    · obtain rfl : t = n := by omega
      have c0 := hA.c0
      go_wp2
      go_ret
      exact ⟨_, rfl, hown, hnx⟩

theorem loose_ref (L : RLay) (M : Mem) (w : World) (H : RefIs w L M) :
    Calls Try.prog 19 #[.pointer (some ⟨L.rb, 0, none⟩)] w fun e w' => ∃ v, e = .returned v ∧ w'.ownsRow w.heap.size 3 1 v M.keys.length (M.keys.map (Value.int .i64)) ∧ Below w.heap.size w w' := by
  obtain ⟨R, hR, hW, hS⟩ := H
  have := looseAt_ref L _ _ _ R w hR
  rw [looseL_all hW] at this
  exact this

end Go.Proofs.Ytoabgkkfhoiagaa
