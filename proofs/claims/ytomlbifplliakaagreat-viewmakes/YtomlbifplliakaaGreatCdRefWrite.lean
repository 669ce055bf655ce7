/- Contracts of the document's own Write: a card's words, by definition. -/
import Derived.Test.YtomlbifplliakaaGreatCdRefRight
import Derived.Test.YtomlbifplliakaaGreatCdWrite
import Derived.Laws.MakeOwn
import Derived.OwnWalk
namespace Go.Proofs.YtomlbifplliakaaGreat.Cd
open Go.RowKit

theorem refWrite_no (k l s v d0 d1 d2 d3 d4 m : Int) (w : World) (h : ¬ Rt k l s d0 d1 d2 d3 d4 m) :
    Calls Tryz.prog 62 #[.agg #[.int .i64 k, .int .i64 l, .int .i64 s, .int .u64 v, .int .i64 d0, .int .i64 d1, .int .i64 d2, .int .i64 d3, .int .i64 d4, .int .i64 m]] w fun e w' => e = .returned (.tuple #[.slice none 0 0, .int .i64 1]) ∧ Below w.heap.size w w' := by
  have H : Hid (¬ Rt k l s d0 d1 d2 d3 d4 m) := h
  clear h
  go_enter Tryz.func62, Tryz.ntmps62
  go_wp2_with fail
  refine (refRight_no k l s v d0 d1 d2 d3 d4 m _ H.out).mono ?_
  rintro e w1 ⟨rfl, bel⟩
  have B := below_box bel
  clear bel
  go_wp2
  go_ret2
  exact ⟨rfl, B⟩

theorem Tryz.info22z : (Tryz.prog.info? 35).map (fun i => (i.zero, i.size, i.bytes)) = some (some (.int .u64 0), 1, 8) := by kernel_rfl
theorem made8 : madeCells (Value.int .u64 0).cells (Int.toNat 8 * 1) = #[.int .u64 0, .int .u64 0, .int .u64 0, .int .u64 0, .int .u64 0, .int .u64 0, .int .u64 0, .int .u64 0] := by
  have e : (madeCells #[Value.int .u64 0] 8).toList = (#[.int .u64 0, .int .u64 0, .int .u64 0, .int .u64 0, .int .u64 0, .int .u64 0, .int .u64 0, .int .u64 0] : Array Value).toList := by rw [toList_madeCells_one]; rfl
  exact Array.toList_inj.1 e
theorem row8_made (w : World) (a0 a1 a2 a3 a4 a5 a6 a7 : Int) : Row8 (w.alloc (.cells #[.int .u64 a0, .int .u64 a1, .int .u64 a2, .int .u64 a3, .int .u64 a4, .int .u64 a5, .int .u64 a6, .int .u64 a7] 35)) w.heap.size a0 a1 a2 a3 a4 a5 a6 a7 := by
  unfold Row8
  simp [go_sem]
theorem make8 (w : World) : (Instr.makeSlice 25 (.int .i64 8) (.int .i64 8)).run Tryz.prog w = .ok (.slice (some ⟨w.heap.size, 0, none⟩) 8 8) (w.alloc (.cells #[.int .u64 0, .int .u64 0, .int .u64 0, .int .u64 0, .int .u64 0, .int .u64 0, .int .u64 0, .int .u64 0] 35)) := by
  obtain ⟨i, hi, hz, hs, hb⟩ := info_parts Tryz.info22z
  have e := run_make (P := Tryz.prog) w 25 35 i (.int .u64 0) Tryz.underlying25 hi hz .i64 .i64 8 8 (by omega) (by omega) (by rw [hb]; omega) (by omega)
  rw [hs, made8] at e
  exact e

set_option maxHeartbeats 2000000 in
theorem refWrite_yes (k l s v d0 d1 d2 d3 d4 m : Int) (w : World) (h : Rt k l s d0 d1 d2 d3 d4 m) :
    Calls Tryz.prog 62 #[.agg #[.int .i64 k, .int .i64 l, .int .i64 s, .int .u64 v, .int .i64 d0, .int .i64 d1, .int .i64 d2, .int .i64 d3, .int .i64 d4, .int .i64 m]] w fun e w' => Wrote w w' e k l s v d0 d1 d2 d3 d4 m := by
  have H : Hid (Rt k l s d0 d1 d2 d3 d4 m) := h
  have hf := h.fit
  unfold Fit Bk at hf
  obtain ⟨⟨k1, k2⟩, ⟨l1, l2⟩, ⟨s1, s2⟩, ⟨p0, q0⟩, ⟨p1, q1⟩, ⟨p2, q2⟩, ⟨p3, q3⟩, ⟨p4, q4⟩, ⟨p5, q5⟩⟩ := hf
  clear h
  go_enter Tryz.func62, Tryz.ntmps62
  go_wp2_with fail
  obtain ⟨W, hW, HS, HE, HC⟩ := new_card w k l s v d0 d1 d2 d3 d4 m
  rw [hW]
  clear hW
  refine (refRight_yes k l s v d0 d1 d2 d3 d4 m _ H.out).mono ?_
  rintro e w1 ⟨rfl, bel⟩
  obtain ⟨c0, c1, c2, c3, c4, c5, c6, c7, c8, c9⟩ := HC.out w1 bel
  have hlt : w.heap.size < w1.heap.size := by have := HS.out; have := bel.size; omega
  have B1 : Hid (Below w.heap.size w w1) := HE.out _ bel
  clear bel
  have hm := make8 w1
  go_wp2_with fail
  clear hm
  refine wp_loop_rounds 5 ?_
  rw [rounds_succ]
  go_wp2_with fail
  go_region
  go_wp2_with fail
  rw [rounds_succ]
  go_wp2_with fail
  go_region
  go_wp2_with fail
  rw [rounds_succ]
  go_wp2_with fail
  go_region
  go_wp2_with fail
  rw [rounds_succ]
  go_wp2_with fail
  go_region
  go_wp2_with fail
  rw [rounds_succ]
  go_wp2_with fail
  clear c0 c1 c2 c3 c4 c5 c6 c7 c8 c9
  go_ret2
  refine ⟨w1.heap.size, rfl, B1.out.size, by simp, ?_, ((((B1.out.alloc B1.out.size _).drew).drew).drew).drew⟩
  have r0 : wd0 k l s = k + 256 * l + 16777216 * s := by unfold wd0; omega
  have r2 : wd2 d0 d1 d2 d3 = 65536 * (65536 * (65536 * (d3 + 1) + (d2 + 1)) + (d1 + 1)) + (d0 + 1) := by unfold wd2; omega
  have r3 : wd3 d4 m = d4 + 1 + 65536 * (m + 1) := by unfold wd3; omega
  rw [r0, r2, r3]
  exact row8_made w1 _ _ _ _ _ _ _ _
end Go.Proofs.YtomlbifplliakaaGreat.Cd
