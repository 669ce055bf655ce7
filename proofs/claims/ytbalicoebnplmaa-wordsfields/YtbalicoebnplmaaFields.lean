/- Proved: for every word, every two numbers and every value, 'WordsFields' returns true and its arguments read afterwards as before. No condition. -/
import Derived.Test.YtbalicoebnplmaaRows
import Derived.Test.YtbalicoebnplmaaRef
import Derived.ProofKit
import Derived.OpenShut
import Derived.ShutString
import Derived.Laws.IdiomArrays
namespace Go.Proofs.Ytbalicoebnplmaa.wordsFields
open Go.ChangeShapes Go.WideShapes Go.ChangeAt Go.RowKit
open Go.ChangeMaps (open_string shut_string)
set_option linter.unusedVariables false

theorem own : ownKnob Try.prog.godebug = none := by kernel_rfl
theorem cells3 : Try.prog.cellsOf 3 = 1 := by kernel_rfl
theorem cells23 : Try.prog.cellsOf 23 = 2 := by kernel_rfl
theorem list2 {α : Type} (l : List α) (h : (⟨l⟩ : Array α).size = 2) : ∃ a b, l = [a, b] := by
  match l, h with
  | [a, b], _ => exact ⟨a, b, rfl⟩

theorem old_cells {W w1 : World} (hb : Below W.heap.size W w1) (b : Nat) (h : b < W.heap.size) : ∀ o, w1.cell? ⟨b, o, none⟩ = W.cell? ⟨b, o, none⟩ :=
  fun o => hb.cell (p := ⟨b, o, none⟩) h
theorem two_cells (w w1 : World) (a b : Value) (hb : Below (w.alloc (.cells #[a, b] 23)).heap.size (w.alloc (.cells #[a, b] 23)) w1) :
    w1.cell? ⟨w.heap.size, 0, none⟩ = some a ∧ w1.cell? ⟨w.heap.size, 1, none⟩ = some b := by
  have h := old_cells hb w.heap.size (by simp)
  simp [h]
theorem below_box (w w1 : World) (o : Obj) (hb : Below (w.alloc o).heap.size (w.alloc o) w1) : Below w.heap.size w w1 :=
  ((Below.refl _ _).alloc (Nat.le_refl _) _).trans (hb.mono (by simp))

theorem walk_no (x v a n : Int) (w : World) (hno : NoField a n) :
    Calls Try.prog 3 #[.int .u64 x, .agg #[.int .i64 a, .int .i64 n], .int .u64 v] w fun e w' => e = .returned (.bool true) ∧ Below w.heap.size w w' := by
  go_enter Try.func3, Try.ntmps3
  go_wp2_with fail
  refine (lives_any _).mono ?_
  rintro e w1 ⟨rfl, hb⟩
  obtain ⟨c0, c1⟩ := two_cells w w1 _ _ hb
  have hB := below_box _ _ _ hb
  clear hb
  go_wp2_with fail
  refine (get_no x a n _ hno).mono ?_
  rintro e w2 ⟨rfl, rfl⟩
  go_wp2_with fail
  refine (refGet_no x a n _ hno).mono ?_
  rintro e w2 ⟨rfl, rfl⟩
  go_wp2_with fail
  refine (put_no x a n v _ hno).mono ?_
  rintro e w2 ⟨rfl, rfl⟩
  go_wp2_with fail
  refine (refPut_no x a n v _ hno).mono ?_
  rintro e w2 ⟨rfl, rfl⟩
  go_wp2
  go_ret
  exact ⟨rfl, hB⟩

theorem walk_range (x v a n : Int) (w : World) (hx0 : 0 ≤ x) (hx : x ≤ 18446744073709551615) (h0 : 0 ≤ a) (h1 : 1 ≤ n) (h2 : a + n ≤ 64) (hv0 : 0 ≤ v) (hv1 : v ≤ 18446744073709551615) (hv : onesI n < v) :
    Calls Try.prog 3 #[.int .u64 x, .agg #[.int .i64 a, .int .i64 n], .int .u64 v] w fun e w' => e = .returned (.bool true) ∧ Below w.heap.size w w' := by
  go_enter Try.func3, Try.ntmps3
  go_wp2_with fail
  refine (lives_any _).mono ?_
  rintro e w1 ⟨rfl, hb⟩
  obtain ⟨c0, c1⟩ := two_cells w w1 _ _ hb
  have hB := below_box _ _ _ hb
  clear hb
  go_wp2_with fail
  refine (get_yes x a n _ hx0 hx h0 h1 h2).mono ?_
  rintro e w2 ⟨rfl, rfl⟩
  go_wp2_with fail
  refine (refGet_yes x a n _ hx0 hx h0 h1 h2).mono ?_
  rintro e w2 ⟨rfl, rfl⟩
  go_wp2_with fail
  refine (put_range x a n v _ h0 h1 h2 hv).mono ?_
  rintro e w2 ⟨rfl, rfl⟩
  go_wp2_with fail
  refine (refPut_range x a n v _ h0 h1 h2 hv0 hv1 hv).mono ?_
  rintro e w2 ⟨rfl, rfl⟩
  go_wp2
  go_ret
  exact ⟨rfl, hB⟩

theorem walk_yes (x v a n : Int) (w : World) (hx0 : 0 ≤ x) (hx : x ≤ 18446744073709551615) (h0 : 0 ≤ a) (h1 : 1 ≤ n) (h2 : a + n ≤ 64) (hv0 : 0 ≤ v) (hv : v ≤ onesI n) :
    Calls Try.prog 3 #[.int .u64 x, .agg #[.int .i64 a, .int .i64 n], .int .u64 v] w fun e w' => e = .returned (.bool true) ∧ Below w.heap.size w w' := by
  go_enter Try.func3, Try.ntmps3
  go_wp2_with fail
  refine (lives_any _).mono ?_
  rintro e w1 ⟨rfl, hb⟩
  obtain ⟨c0, c1⟩ := two_cells w w1 _ _ hb
  have hB := below_box _ _ _ hb
  clear hb
  go_wp2_with fail
  refine (get_yes x a n _ hx0 hx h0 h1 h2).mono ?_
  rintro e w2 ⟨rfl, rfl⟩
  go_wp2_with fail
  refine (refGet_yes x a n _ hx0 hx h0 h1 h2).mono ?_
  rintro e w2 ⟨rfl, rfl⟩
  go_wp2_with fail
  refine (put_yes x a n v _ hx0 hx h0 h1 h2 hv0 hv).mono ?_
  rintro e w2 ⟨rfl, rfl⟩
  go_wp2_with fail
  refine (refPut_yes x a n v _ hx0 hx h0 h1 h2 hv0 hv).mono ?_
  rintro e w2 ⟨rfl, rfl⟩
  go_wp2
  go_ret
  exact ⟨rfl, hB⟩

theorem walk (x v a n : Int) (w : World) (hx0 : 0 ≤ x) (hx : x ≤ 18446744073709551615) (hv0 : 0 ≤ v) (hv1 : v ≤ 18446744073709551615) (ha : -9223372036854775808 ≤ a ∧ a ≤ 9223372036854775807) :
    Calls Try.prog 3 #[.int .u64 x, .agg #[.int .i64 a, .int .i64 n], .int .u64 v] w fun e w' => e = .returned (.bool true) ∧ Below w.heap.size w w' := by
  by_cases hf : 0 ≤ a ∧ 1 ≤ n ∧ a + n ≤ 64
  · obtain ⟨h0, h1, h2⟩ := hf
    by_cases hv : v ≤ onesI n
    · exact walk_yes x v a n w hx0 hx h0 h1 h2 hv0 hv
    · exact walk_range x v a n w hx0 hx h0 h1 h2 hv0 hv1 (by omega)
  · exact walk_no x v a n w ⟨ha.1, ha.2, by omega⟩

set_option maxRecDepth 100000 in
theorem lifted (os : Os) (started : os.Started) (H : Type) (enc : TypeId × Value → H) :
    ReturnsInHanded {} Try.checked os 3 .any (Rows.wordsFieldsSpec.pre6 enc Try.prog Try.f3 Rows.wordsFieldsRow.domain false) (Rows.wordsFieldsSpec.post enc Try.prog Try.f3 false true false false) := by
  refine returnsInHanded_of_change (C := Try.checked) own started (by kernel_rfl) Try.func3
    (ChangeSpec.witness6 (enc := enc) (C := Try.checked) false ⟨#[], #[.int .u64 0, .agg #[.int .i64 0, .int .i64 0], .int .u64 0], []⟩ 8 (by kernel_rfl) (by kernel_rfl) (by kernel_rfl) (by kernel_rfl)) ?_
  intro W base args ds gs before hval0 hW hcnd _
  have hval : ∀ (j : Nat) t v, Try.f3.params[j]? = some t → args[j]? = some v → Value.okWide Try.prog W .any base t v := hval0
  have hW' := hW
  obtain ⟨p, q, hA0, hV, rfl, hfz, hnd⟩ := hW
  have hA : DataW.TrodAll enc Try.prog W 0 (fun _ => true) true Try.f3.params.toList args.toList ds p := hA0
  rw [Try.params3] at hA hval
  obtain ⟨v0, vs0, d0, ds0, p0, q0, hargs, rfl, rfl, h0, r0⟩ := trodAll_cons hA
  obtain ⟨v1, vs1, d1, ds1, p1, q1, rfl, rfl, rfl, h1, r1⟩ := trodAll_cons r0
  obtain ⟨v2, vs2, d2, ds2, p2, q2, rfl, rfl, rfl, h2, r2⟩ := trodAll_cons r1
  obtain ⟨rfl, rfl, rfl⟩ := trodAll_nil r2
  obtain rfl : args = #[v0, v1, v2] := by cases args; simp_all
  obtain ⟨rfl, rfl⟩ := trodVars_none hV
  obtain ⟨a0, rfl, rfl, rfl, w0⟩ := open_int Try.underlying22 (hval 0 22 v0 rfl rfl) h0
  obtain ⟨a2, rfl, rfl, rfl, w2⟩ := open_int Try.underlying22 (hval 2 22 v2 rfl rfl) h2
  obtain ⟨cs, rfl, hsz, _⟩ : ∃ cs, v1 = .agg cs ∧ cs.size = Try.prog.cellsOf 23 ∧ Row.okWide Try.prog W .any base 23 cs := by
    have := hval 1 23 v1 rfl rfl
    simpa [Value.okWide, Try.underlying23] using this
  rw [cells23] at hsz
  obtain ⟨l⟩ := cs
  obtain ⟨c0, c1, rfl⟩ := list2 l hsz
  obtain ⟨fuel, hf⟩ := h1
  obtain ⟨ys, m, _, hx, _, hl, hel⟩ := DataW.trod_array Try.underlying23 hf
  obtain ⟨y0, y1, rfl⟩ : ∃ y0 y1, ys = [y0, y1] := by
    match ys, hl with
    | [a, b], _ => exact ⟨a, b, rfl⟩
  have hy0 := hel 0 (by omega)
  have hy1 := hel 1 (by omega)
  simp [cells3, Value.cells] at hy0 hy1
  obtain ⟨x0, e0, rfl, u0⟩ := DataW.trod_int Try.underlying3 hy0
  obtain ⟨x1, e1, rfl, u1⟩ := DataW.trod_int Try.underlying3 hy1
  simp at e0 e1
  subst e0 e1
  simp at hx
  obtain ⟨rfl, rfl⟩ := hx
  clear hA0 hval0
  have bd := bounds_u64 w0
  have bd2 := bounds_u64 w2
  refine (walk a0 a2 x0 x1 W bd.1 bd.2 bd2.1 bd2.2 (bounds_i64 u0)).mono fun e W' ⟨he, bel⟩ => ?_
  subst he
  have rdA : ∀ sp : Nat → Bool, DataW.Trod enc Try.prog W' 0 sp true 23 (.agg #[.int .i64 x0, .int .i64 x1]) (DataW.agg [.lit (.int .i64 x0), .lit (.int .i64 x1)]) [] := fun sp => ⟨2, by simp [DataW.trod, Value.cells, Try.underlying23, Try.underlying3, cells23, cells3, u0, u1, show List.range 2 = [0, 1] from rfl]⟩
  exact ⟨_, rfl, _, _, _, [], _, [], hW', trodAll_mk1 (shut_bool Try.underlying4 _), (trodAll_cons_mk (shut_int Try.underlying22 w0) (trodAll_cons_mk (rdA _) (trodAll_cons_mk (shut_int Try.underlying22 w2) trodAll_mk0))), rfl, bel.frame _, fun h => by cases h⟩

theorem over : Rows.wordsFieldsRow.holds Try.pinned (OpenSpec.ofChange Rows.wordsFieldsSpec) :=
  OpenClaim.holds_of_wide 3 Try.f3 rfl rfl rfl rfl rfl rfl rfl ⟨rfl, rfl, rfl, rfl, rfl⟩ rfl rfl rfl rfl rfl (by kernel_rfl) Try.func3 (by kernel_rfl)
    (of_decide_eq_true (by kernel_rfl)) (by unfold Func.isWrapper; first | (rw [if_pos (by decide +kernel)]; kernel_rfl) | (rw [if_neg (by decide +kernel)]; exact ⟨rfl, rfl⟩))
    (fun os started H enc _ => lifted os started H enc)

/-- ████ THE STATEMENT ████ -/
theorem proved : Rows.WordsFieldsSaid :=
  over
#print axioms proved
end Go.Proofs.Ytbalicoebnplmaa.wordsFields
