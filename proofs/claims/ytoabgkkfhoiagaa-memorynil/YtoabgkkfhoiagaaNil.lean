/- MemoryNil: for every step, a memory that isn't there does nothing: the law returns true, and leaves its argument as it was. No condition. -/
import Derived.Test.YtoabgkkfhoiagaaRows
import Derived.Test.YtoabgkkfhoiagaaOpen
import Derived.WalkKit
import Derived.ProofKit
import Derived.OpenShut
import Derived.ShutString
import Derived.ChangeOld
import Derived.Below
namespace Go.Proofs.Ytoabgkkfhoiagaa.memoryNil
open Go.ChangeShapes Go.WideShapes Go.ChangeAt Go.RowKit
set_option linter.unusedVariables false

theorem own : ownKnob Try.prog.godebug = none := by kernel_rfl
theorem laidOut : laidOutB Try.prog = true := by kernel_rfl

set_option maxHeartbeats 1000000 in
theorem walk (o : Step) (kv : Value) (w : World) (ho : o.Ok) :
    Calls Try.prog 7 #[.agg #[.int .i64 o.kind, .int .i64 o.at_, .int .u64 o.v, kv]] w fun e w' => e = .returned (.bool true) ∧ Below w.heap.size w w' := by
  obtain ⟨q, hq, hq3⟩ : ∃ q : Int, (if o.k < 3 then (1 : Int) else 0) = q ∧ (decide (q = 1) = decide (o.k < 3)) := ⟨_, rfl, by split <;> simp_all⟩
  have hd := does_nil o kv
  rw [hq] at hd
  go_enter Try.func7, Try.ntmps7
  go_wp2_with fail
  refine (lives_any _).mono ?_
  rintro e w1 ⟨rfl, hb⟩
  have d0 := boxed_cell hb 0
  have d1 := boxed_cell hb 1
  have d2 := boxed_cell hb 2
  have d3 := boxed_cell hb 3
  simp only [List.getElem?_toArray, List.getElem?_cons_succ, List.getElem?_cons_zero] at d0 d1 d2 d3
  have b1 := ((Below.refl w.heap.size w).alloc (Nat.le_refl _) _).trans (hb.mono (by simp))
  clear hb
  go_wp2_with fail
  refine (hd _).mono ?_
  rintro e w2 ⟨rfl, hb2⟩
  have hl : w.heap.size < w1.heap.size := World.block_lt_of_cell? w1 _ d0
  have d0' := (hb2.cell (p := ⟨w.heap.size, 0, none⟩) hl).trans d0
  have d1' := (hb2.cell (p := ⟨w.heap.size, 1, none⟩) hl).trans d1
  have d2' := (hb2.cell (p := ⟨w.heap.size, 2, none⟩) hl).trans d2
  have d3' := (hb2.cell (p := ⟨w.heap.size, 3, none⟩) hl).trans d3
  have b2 := b1.trans (hb2.mono (Nat.le_of_lt hl))
  clear b1
  go_wp2_with fail
  refine (kind_any o kv _).mono ?_
  rintro e w3 ⟨rfl, hb3⟩
  have hl3 := hb2.size
  have d1'' := (hb3.cell (p := ⟨w.heap.size, 1, none⟩) (show w.heap.size < w2.heap.size by omega)).trans d1'
  have b3 := b2.trans (hb3.mono (by omega))
  clear b2
  go_wp2_with (first
    | (go_at_call 26; refine (read_nil _ _).mono ?_; rintro e w4 ⟨rfl, hw⟩; obtain rfl := hw.symm)
    | (go_at_call 21; refine (image_nil _).mono ?_; rintro e w4 ⟨rfl, hb4⟩)
    | (go_at_call 23; refine (size_nil _).mono ?_; rintro e w5 ⟨rfl, hw⟩; obtain rfl := hw.symm)
    | (go_at_call 16; refine (calls_nil _).mono ?_; rintro e w5 ⟨rfl, hw⟩; obtain rfl := hw.symm)
    | (go_at_call 18; refine (loose_nil _).mono ?_; rintro e w5 ⟨rfl, hw⟩; obtain rfl := hw.symm)
    | go_in)
  go_ret
  exact ⟨rfl, b3.trans (hb4.mono b3.size)⟩

set_option maxRecDepth 100000 in
theorem lifted (os : Os) (started : os.Started) (H : Type) (enc : TypeId × Value → H) :
    ReturnsInHanded {} Try.checked os 7 .any (Rows.memoryNilSpec.pre6 enc Try.prog Try.f7 Rows.memoryNilRow.domain false) (Rows.memoryNilSpec.post enc Try.prog Try.f7 false true false false) := by
  refine returnsInHanded_of_change (C := Try.checked) own started (by kernel_rfl) Try.func7
    (ChangeSpec.witness6 (enc := enc) (C := Try.checked) false ⟨#[], #[.agg #[.int .i64 0, .int .i64 0, .int .u64 0, .slice none 0 0]], []⟩ 8 (by kernel_rfl) (by kernel_rfl) (by kernel_rfl) (by kernel_rfl)) ?_
  intro W base args ds gs before hval0 hW hcnd _
  have hval : ∀ (j : Nat) t v, Try.f7.params[j]? = some t → args[j]? = some v → Value.okWide Try.prog W .any base t v := hval0
  have hW' := hW
  obtain ⟨p, q, hA0, hV, rfl, hfz, hnd⟩ := hW
  have hA : DataW.TrodAll enc Try.prog W 0 (fun _ => true) true Try.f7.params.toList args.toList ds p := hA0
  rw [Try.params7] at hA hval
  obtain ⟨v0, vs0, d0, ds0, p0, q0, hargs, rfl, rfl, h0, r0⟩ := trodAll_cons hA
  obtain ⟨rfl, rfl, rfl⟩ := trodAll_nil r0
  obtain rfl : args = #[v0] := by cases args; simp_all
  obtain ⟨rfl, rfl⟩ := trodVars_none hV
  have k0 := h0
  have lt0 : ∀ x ∈ p0, x.block < W.heap.size := by obtain ⟨m, hm⟩ := k0; exact DataW.trod_lt m _ _ _ hm
  obtain ⟨o, kv, rfl, hk, ho⟩ := open_step (hval 0 35 v0 rfl rfl) h0
  clear hA0 hval0
  refine (walk o kv W ho).mono fun e W' ⟨he, bel⟩ => ?_
  subst he
  exact ⟨_, rfl, _, _, _, [], _, [], hW', trodAll_mk1 (shut_bool Try.underlying4 _), (trodAll_cons_mk (Below.trod laidOut (by kernel_rfl) (of_decide_eq_true (by kernel_rfl)) k0 bel lt0) trodAll_mk0), rfl, bel.frame _, fun h => by cases h⟩

theorem over : Rows.memoryNilRow.holds Try.pinned (OpenSpec.ofChange Rows.memoryNilSpec) :=
  OpenClaim.holds_of_wide 7 Try.f7 rfl rfl rfl rfl rfl rfl rfl ⟨rfl, rfl, rfl, rfl, rfl⟩ rfl rfl rfl rfl rfl (by kernel_rfl) Try.func7 (by kernel_rfl)
    (of_decide_eq_true (by kernel_rfl)) (by unfold Func.isWrapper; first | (rw [if_pos (by decide +kernel)]; kernel_rfl) | (rw [if_neg (by decide +kernel)]; exact ⟨rfl, rfl⟩))
    (fun os started H enc _ => lifted os started H enc)

theorem proved : Rows.MemoryNilSaid := over
#print axioms proved
end Go.Proofs.Ytoabgkkfhoiagaa.memoryNil
