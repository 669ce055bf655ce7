/- BodyNil: without a view there are no bytes: Map, Read, Write, Cut and Keep of nil answer ErrArg, for every card and every step. No condition. -/
import Derived.Test.YtdjnkibnnjobpaaBdNil
import Derived.Test.YtdjnkibnnjobpaaRows
import Derived.Test.YtdjnkibnnjobpaaChecked
namespace Go.Proofs.Ytdjnkibnnjobpaa.bodyNil
open Go.RowKit Go.Maps Go.ChangeMaps Go.ChangeShapes Go.WideShapes Go.ChangeAt Go.Deep Go.Joins
set_option linter.unusedVariables false

/-- A step in a block. -/
def OpAt (w : World) (g : Nat) (oo : Bop) : Prop := w.heap[g]? = some (.cells #[.int .i64 oo.kind, .int .i64 oo.at_, .int .i64 oo.n, .string oo.data] 50 (0, 0))
theorem OpAt.later {w w' : World} {g : Nat} {oo : Bop} (h : OpAt w g oo) (hb : Below w.heap.size w w') : OpAt w' g oo := (hb.block g (Array.getElem?_eq_some_iff.1 h).1).trans h
theorem card_op (w : World) (k l s v d0 d1 d2 d3 d4 m : Int) (oo : Bop) : ∃ X : World, (w.alloc (.cells #[.int .i64 k, .int .i64 l, .int .i64 s, .int .u64 v, .int .i64 d0, .int .i64 d1, .int .i64 d2, .int .i64 d3, .int .i64 d4, .int .i64 m] 26)).alloc (.cells #[.int .i64 oo.kind, .int .i64 oo.at_, .int .i64 oo.n, .string oo.data] 50) = X ∧ Hid (Below w.heap.size w X) ∧ Hid (CardAt X w.heap.size k l s v d0 d1 d2 d3 d4 m) ∧ Hid (OpAt X (w.heap.size + 1) oo) := by
  refine ⟨_, rfl, ((Below.refl _ _).alloc (Nat.le_refl _) _).alloc (by simp) _, ?_, ?_⟩
  · show _ = _
    rw [Below.heap_alloc _ _ _ (by simp)]
    exact heap_alloc_new _ _
  · show _ = _
    have h := heap_alloc_new (w.alloc (.cells #[.int .i64 k, .int .i64 l, .int .i64 s, .int .u64 v, .int .i64 d0, .int .i64 d1, .int .i64 d2, .int .i64 d3, .int .i64 d4, .int .i64 m] 26)) (.cells #[.int .i64 oo.kind, .int .i64 oo.at_, .int .i64 oo.n, .string oo.data] 50)
    rw [World.size_alloc] at h
    exact h

set_option maxHeartbeats 4000000 in
set_option maxRecDepth 100000 in
theorem walk (c : Crd) (oo : Bop) (w : World) (hc : (Lit.int .u64 c.v).wf = true) (ho : BopIn oo) :
    Calls Try.prog 4 #[.agg c.vals.toArray, .agg oo.vals.toArray] w fun e w' => e = .returned (.bool true) ∧ Below w.heap.size w w' := by
  obtain ⟨k, l, s, v, d0, d1, d2, d3, d4, m⟩ := c
  show Calls Try.prog 4 #[.agg #[.int .i64 k, .int .i64 l, .int .i64 s, .int .u64 v, .int .i64 d0, .int .i64 d1, .int .i64 d2, .int .i64 d3, .int .i64 d4, .int .i64 m], .agg #[.int .i64 oo.kind, .int .i64 oo.at_, .int .i64 oo.n, .string oo.data]] w _
  go_enter Try.func4, Try.ntmps4
  go_wp2_with fail
  obtain ⟨X, hX, HXB, HC, HP⟩ := card_op w k l s v d0 d1 d2 d3 d4 m oo
  rw [hX]
  clear hX
  refine (lives_any X).mono ?_
  rintro e w1 ⟨rfl, hb⟩
  have HB1 : Hid (Below w.heap.size w w1) := HXB.out.trans (hb.mono HXB.out.size)
  have HC1 : Hid (CardAt w1 w.heap.size k l s v d0 d1 d2 d3 d4 m) := HC.out.later hb
  have HP1 : Hid (OpAt w1 (w.heap.size + 1) oo) := HP.out.later hb
  clear hb
  obtain ⟨c0, c1, c2, c3, c4, c5, c6, c7, c8, c9⟩ := HC1.out.ten
  have p1 : (w1).cell? ⟨w.heap.size + 1, 1, none⟩ = some (.int .i64 oo.at_) := by rw [cell_of_row _ _ 1 _ _ _ HP1.out]; rfl
  have p2 : (w1).cell? ⟨w.heap.size + 1, 2, none⟩ = some (.int .i64 oo.n) := by rw [cell_of_row _ _ 2 _ _ _ HP1.out]; rfl
  have p3 : (w1).cell? ⟨w.heap.size + 1, 3, none⟩ = some (.string oo.data) := by rw [cell_of_row _ _ 3 _ _ _ HP1.out]; rfl
  go_wp2_with fail
  refine (nmap k l s v d0 d1 d2 d3 d4 m _).mono ?_
  rintro e x2 ⟨rfl, hb⟩
  clear c0 c1 c2 c3 c4 c5 c6 c7 c8 c9 p1 p2 p3
  have hbb := hb
  have HB2 : Hid (Below w.heap.size w (x2)) := HB1.out.trans (hbb.mono HB1.out.size)
  have HC2 : Hid (CardAt (x2) w.heap.size k l s v d0 d1 d2 d3 d4 m) := HC1.out.later hbb
  have HP2 : Hid (OpAt (x2) (w.heap.size + 1) oo) := HP1.out.later hbb
  clear hb hbb
  obtain ⟨c0, c1, c2, c3, c4, c5, c6, c7, c8, c9⟩ := HC2.out.ten
  have p1 : (x2).cell? ⟨w.heap.size + 1, 1, none⟩ = some (.int .i64 oo.at_) := by rw [cell_of_row _ _ 1 _ _ _ HP2.out]; rfl
  have p2 : (x2).cell? ⟨w.heap.size + 1, 2, none⟩ = some (.int .i64 oo.n) := by rw [cell_of_row _ _ 2 _ _ _ HP2.out]; rfl
  have p3 : (x2).cell? ⟨w.heap.size + 1, 3, none⟩ = some (.string oo.data) := by rw [cell_of_row _ _ 3 _ _ _ HP2.out]; rfl
  go_wp2_with fail
  refine (bnread k l s v d0 d1 d2 d3 d4 m oo.at_ oo.n _).mono ?_
  rintro e x3 ⟨rfl, hb⟩
  clear c0 c1 c2 c3 c4 c5 c6 c7 c8 c9 p1 p2 p3
  have hbb := hb
  have HB3 : Hid (Below w.heap.size w (x3)) := HB2.out.trans (hbb.mono HB2.out.size)
  have HC3 : Hid (CardAt (x3) w.heap.size k l s v d0 d1 d2 d3 d4 m) := HC2.out.later hbb
  have HP3 : Hid (OpAt (x3) (w.heap.size + 1) oo) := HP2.out.later hbb
  clear hb hbb
  obtain ⟨c0, c1, c2, c3, c4, c5, c6, c7, c8, c9⟩ := HC3.out.ten
  have p1 : (x3).cell? ⟨w.heap.size + 1, 1, none⟩ = some (.int .i64 oo.at_) := by rw [cell_of_row _ _ 1 _ _ _ HP3.out]; rfl
  have p2 : (x3).cell? ⟨w.heap.size + 1, 2, none⟩ = some (.int .i64 oo.n) := by rw [cell_of_row _ _ 2 _ _ _ HP3.out]; rfl
  have p3 : (x3).cell? ⟨w.heap.size + 1, 3, none⟩ = some (.string oo.data) := by rw [cell_of_row _ _ 3 _ _ _ HP3.out]; rfl
  go_wp2_with fail
  refine (bnwrite k l s v d0 d1 d2 d3 d4 m oo.at_ oo.data _).mono ?_
  rintro e x4 ⟨rfl, hb⟩
  clear c0 c1 c2 c3 c4 c5 c6 c7 c8 c9 p1 p2 p3
  have hbb : Below (x3).heap.size (x3) (x4.alloc (.cells #[.int .i64 0, .int .i64 0, .int .i64 0, .int .u64 0, .int .i64 0, .int .i64 0, .int .i64 0, .int .i64 0, .int .i64 0, .int .i64 0] 26)) := hb.alloc hb.size _
  have HB4 : Hid (Below w.heap.size w (x4.alloc (.cells #[.int .i64 0, .int .i64 0, .int .i64 0, .int .u64 0, .int .i64 0, .int .i64 0, .int .i64 0, .int .i64 0, .int .i64 0, .int .i64 0] 26))) := HB3.out.trans (hbb.mono HB3.out.size)
  have HC4 : Hid (CardAt (x4.alloc (.cells #[.int .i64 0, .int .i64 0, .int .i64 0, .int .u64 0, .int .i64 0, .int .i64 0, .int .i64 0, .int .i64 0, .int .i64 0, .int .i64 0] 26)) w.heap.size k l s v d0 d1 d2 d3 d4 m) := HC3.out.later hbb
  have HP4 : Hid (OpAt (x4.alloc (.cells #[.int .i64 0, .int .i64 0, .int .i64 0, .int .u64 0, .int .i64 0, .int .i64 0, .int .i64 0, .int .i64 0, .int .i64 0, .int .i64 0] 26)) (w.heap.size + 1) oo) := HP3.out.later hbb
  clear hb hbb
  obtain ⟨c0, c1, c2, c3, c4, c5, c6, c7, c8, c9⟩ := HC4.out.ten
  have p1 : (x4.alloc (.cells #[.int .i64 0, .int .i64 0, .int .i64 0, .int .u64 0, .int .i64 0, .int .i64 0, .int .i64 0, .int .i64 0, .int .i64 0, .int .i64 0] 26)).cell? ⟨w.heap.size + 1, 1, none⟩ = some (.int .i64 oo.at_) := by rw [cell_of_row _ _ 1 _ _ _ HP4.out]; rfl
  have p2 : (x4.alloc (.cells #[.int .i64 0, .int .i64 0, .int .i64 0, .int .u64 0, .int .i64 0, .int .i64 0, .int .i64 0, .int .i64 0, .int .i64 0, .int .i64 0] 26)).cell? ⟨w.heap.size + 1, 2, none⟩ = some (.int .i64 oo.n) := by rw [cell_of_row _ _ 2 _ _ _ HP4.out]; rfl
  have p3 : (x4.alloc (.cells #[.int .i64 0, .int .i64 0, .int .i64 0, .int .u64 0, .int .i64 0, .int .i64 0, .int .i64 0, .int .i64 0, .int .i64 0, .int .i64 0] 26)).cell? ⟨w.heap.size + 1, 3, none⟩ = some (.string oo.data) := by rw [cell_of_row _ _ 3 _ _ _ HP4.out]; rfl
  go_wp2_with fail
  refine (bncut k l s v d0 d1 d2 d3 d4 m oo.at_ _).mono ?_
  rintro e x5 ⟨rfl, hb⟩
  clear c0 c1 c2 c3 c4 c5 c6 c7 c8 c9 p1 p2 p3
  have hbb : Below (x4.alloc (.cells #[.int .i64 0, .int .i64 0, .int .i64 0, .int .u64 0, .int .i64 0, .int .i64 0, .int .i64 0, .int .i64 0, .int .i64 0, .int .i64 0] 26)).heap.size (x4.alloc (.cells #[.int .i64 0, .int .i64 0, .int .i64 0, .int .u64 0, .int .i64 0, .int .i64 0, .int .i64 0, .int .i64 0, .int .i64 0, .int .i64 0] 26)) (x5.alloc (.cells #[.int .i64 0, .int .i64 0, .int .i64 0, .int .u64 0, .int .i64 0, .int .i64 0, .int .i64 0, .int .i64 0, .int .i64 0, .int .i64 0] 26)) := hb.alloc hb.size _
  have HB5 : Hid (Below w.heap.size w (x5.alloc (.cells #[.int .i64 0, .int .i64 0, .int .i64 0, .int .u64 0, .int .i64 0, .int .i64 0, .int .i64 0, .int .i64 0, .int .i64 0, .int .i64 0] 26))) := HB4.out.trans (hbb.mono HB4.out.size)
  have HC5 : Hid (CardAt (x5.alloc (.cells #[.int .i64 0, .int .i64 0, .int .i64 0, .int .u64 0, .int .i64 0, .int .i64 0, .int .i64 0, .int .i64 0, .int .i64 0, .int .i64 0] 26)) w.heap.size k l s v d0 d1 d2 d3 d4 m) := HC4.out.later hbb
  have HP5 : Hid (OpAt (x5.alloc (.cells #[.int .i64 0, .int .i64 0, .int .i64 0, .int .u64 0, .int .i64 0, .int .i64 0, .int .i64 0, .int .i64 0, .int .i64 0, .int .i64 0] 26)) (w.heap.size + 1) oo) := HP4.out.later hbb
  clear hb hbb
  obtain ⟨c0, c1, c2, c3, c4, c5, c6, c7, c8, c9⟩ := HC5.out.ten
  have p1 : (x5.alloc (.cells #[.int .i64 0, .int .i64 0, .int .i64 0, .int .u64 0, .int .i64 0, .int .i64 0, .int .i64 0, .int .i64 0, .int .i64 0, .int .i64 0] 26)).cell? ⟨w.heap.size + 1, 1, none⟩ = some (.int .i64 oo.at_) := by rw [cell_of_row _ _ 1 _ _ _ HP5.out]; rfl
  have p2 : (x5.alloc (.cells #[.int .i64 0, .int .i64 0, .int .i64 0, .int .u64 0, .int .i64 0, .int .i64 0, .int .i64 0, .int .i64 0, .int .i64 0, .int .i64 0] 26)).cell? ⟨w.heap.size + 1, 2, none⟩ = some (.int .i64 oo.n) := by rw [cell_of_row _ _ 2 _ _ _ HP5.out]; rfl
  have p3 : (x5.alloc (.cells #[.int .i64 0, .int .i64 0, .int .i64 0, .int .u64 0, .int .i64 0, .int .i64 0, .int .i64 0, .int .i64 0, .int .i64 0, .int .i64 0] 26)).cell? ⟨w.heap.size + 1, 3, none⟩ = some (.string oo.data) := by rw [cell_of_row _ _ 3 _ _ _ HP5.out]; rfl
  go_wp2_with fail
  refine (bnkeep k l s v d0 d1 d2 d3 d4 m _).mono ?_
  rintro e x6 ⟨rfl, hb⟩
  clear c0 c1 c2 c3 c4 c5 c6 c7 c8 c9 p1 p2 p3
  have hbb : Below (x5.alloc (.cells #[.int .i64 0, .int .i64 0, .int .i64 0, .int .u64 0, .int .i64 0, .int .i64 0, .int .i64 0, .int .i64 0, .int .i64 0, .int .i64 0] 26)).heap.size (x5.alloc (.cells #[.int .i64 0, .int .i64 0, .int .i64 0, .int .u64 0, .int .i64 0, .int .i64 0, .int .i64 0, .int .i64 0, .int .i64 0, .int .i64 0] 26)) (x6.alloc (.cells #[.int .i64 0, .int .i64 0, .int .i64 0, .int .u64 0, .int .i64 0, .int .i64 0, .int .i64 0, .int .i64 0, .int .i64 0, .int .i64 0] 26)) := hb.alloc hb.size _
  have HB6 : Hid (Below w.heap.size w (x6.alloc (.cells #[.int .i64 0, .int .i64 0, .int .i64 0, .int .u64 0, .int .i64 0, .int .i64 0, .int .i64 0, .int .i64 0, .int .i64 0, .int .i64 0] 26))) := HB5.out.trans (hbb.mono HB5.out.size)
  have HC6 : Hid (CardAt (x6.alloc (.cells #[.int .i64 0, .int .i64 0, .int .i64 0, .int .u64 0, .int .i64 0, .int .i64 0, .int .i64 0, .int .i64 0, .int .i64 0, .int .i64 0] 26)) w.heap.size k l s v d0 d1 d2 d3 d4 m) := HC5.out.later hbb
  have HP6 : Hid (OpAt (x6.alloc (.cells #[.int .i64 0, .int .i64 0, .int .i64 0, .int .u64 0, .int .i64 0, .int .i64 0, .int .i64 0, .int .i64 0, .int .i64 0, .int .i64 0] 26)) (w.heap.size + 1) oo) := HP5.out.later hbb
  clear hb hbb
  go_wp2
  go_ret
  exact ⟨rfl, HB6.out⟩
set_option maxRecDepth 100000 in
theorem lifted (os : Os) (started : os.Started) (H : Type) (enc : TypeId × Value → H) :
    ReturnsInHanded {} Try.checked os 4 .any (Rows.bodyNilSpec.pre6 enc Try.prog Try.f4 Rows.bodyNilRow.domain false) (Rows.bodyNilSpec.post enc Try.prog Try.f4 false true false false) := by
  refine returnsInHanded_of_change (C := Try.checked) own started (by kernel_rfl) Try.func4
    (ChangeSpec.witness6 (enc := enc) (C := Try.checked) false ⟨#[], #[.agg #[.int .i64 0, .int .i64 0, .int .i64 0, .int .u64 0, .int .i64 0, .int .i64 0, .int .i64 0, .int .i64 0, .int .i64 0, .int .i64 0], .agg #[.int .i64 0, .int .i64 0, .int .i64 0, .string ⟨#[]⟩]], []⟩ 8 (by kernel_rfl) (by kernel_rfl) (by kernel_rfl) (by kernel_rfl)) ?_
  intro W base args ds gs before hval0 hW hcnd _
  have hval : ∀ (j : Nat) t v, Try.f4.params[j]? = some t → args[j]? = some v → Value.okWide Try.prog W .any base t v := hval0
  have hW' := hW
  obtain ⟨p, q, hA0, hV, rfl, hfz, hnd⟩ := hW
  have hA : DataW.TrodAll enc Try.prog W 0 (fun _ => true) true Try.f4.params.toList args.toList ds p := hA0
  rw [Try.params4] at hA hval
  obtain ⟨v0, vs0, d0, ds0, p0, q0, hargs, rfl, rfl, h0, r0⟩ := trodAll_cons hA
  obtain ⟨v1, vs1, d1, ds1, p1, q1, rfl, rfl, rfl, h1, r1⟩ := trodAll_cons r0
  obtain ⟨rfl, rfl, rfl⟩ := trodAll_nil r1
  obtain rfl : args = #[v0, v1] := by cases args; simp_all
  obtain ⟨rfl, rfl⟩ := trodVars_none hV
  have k0 := h0
  have lt0 : ∀ x ∈ p0, x.block < W.heap.size := by obtain ⟨m, hm⟩ := k0; exact DataW.trod_lt m _ _ _ hm
  obtain ⟨a0, rfl, w0⟩ := open_bcard (hval 0 26 v0 rfl rfl) h0
  have k1 := h1
  have lt1 : ∀ x ∈ p1, x.block < W.heap.size := by obtain ⟨m, hm⟩ := k1; exact DataW.trod_lt m _ _ _ hm
  obtain ⟨a1, rfl, w1⟩ := open_bstep (hval 1 50 v1 rfl rfl) h1
  clear hA0 hval0
  refine (walk a0 a1 W w0 w1).mono fun e W' ⟨he, bel⟩ => ?_
  subst he
  exact ⟨_, rfl, _, _, _, [], _, [], hW', trodAll_mk1 (shut_bool Try.underlying4 _), (trodAll_cons_mk (Below.trod laidOut (by kernel_rfl) (of_decide_eq_true (by kernel_rfl)) k0 bel lt0) (trodAll_cons_mk (Below.trod laidOut (by kernel_rfl) (of_decide_eq_true (by kernel_rfl)) k1 bel lt1) trodAll_mk0)), rfl, bel.frame _, fun h => by cases h⟩

theorem over : Rows.bodyNilRow.holds Try.pinned (OpenSpec.ofChange Rows.bodyNilSpec) :=
  OpenClaim.holds_of_wide 4 Try.f4 rfl rfl rfl rfl rfl rfl rfl ⟨rfl, rfl, rfl, rfl, rfl⟩ rfl rfl rfl rfl rfl (by kernel_rfl) Try.func4 (by kernel_rfl)
    (of_decide_eq_true (by kernel_rfl)) (by unfold Func.isWrapper; first | (rw [if_pos (by decide +kernel)]; kernel_rfl) | (rw [if_neg (by decide +kernel)]; exact ⟨rfl, rfl⟩))
    (fun os started H enc _ => lifted os started H enc)

theorem proved : Rows.BodyNilSaid := over
#print axioms proved
end Go.Proofs.Ytdjnkibnnjobpaa.bodyNil
