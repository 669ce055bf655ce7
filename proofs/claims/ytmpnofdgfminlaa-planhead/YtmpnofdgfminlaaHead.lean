/- Proved: for every slice of words, number and word, 'PlanHead' returns true and its arguments read afterwards as before. No condition. -/
import Derived.Test.YtmpnofdgfminlaaRows
import Derived.Test.YtmpnofdgfminlaaMem
import Derived.ProofKit
import Derived.OpenShut
import Derived.SizedLaws
import Derived.Lib.AppendZeros
namespace Go.Proofs.Ytmpnofdgfminlaa.planHead
open Go.ChangeShapes Go.WideShapes Go.ChangeAt Go.RowKit
set_option linter.unusedVariables false

theorem own : ownKnob Try.prog.godebug = none := by kernel_rfl
theorem laidOut : laidOutB Try.prog = true := by kernel_rfl

theorem bytes30 : Try.prog.bytesOf 30 = 8 := by kernel_rfl
theorem cell_block {w : World} {a : Addr} {v : Value} (h : w.cell? a = some v) : a.block < w.heap.size := by
  by_cases hb : a.block < w.heap.size
  · exact hb
  · have e : w.heap[a.block]? = none := Array.getElem?_eq_none (by omega)
    unfold World.cell? at h
    rw [e] at h
    simp at h
theorem uAt_of {w : World} {x : Addr} {len cap : Nat} {zs : List Int} (hl : len ≤ cap) (hz : zs.length = cap) (hc : ∀ i, i < zs.length → w.cell? (x.add i) = some (.int .u64 (zs.getD i 0))) :
    UAt w (some x) len fun j => zs.getD j 0 := by
  by_cases h0 : len = 0
  · exact .inl h0
  · obtain ⟨b, off, rfl, hcell⟩ := ints_at hc (by omega)
    exact .inr ⟨b, off, rfl, cell_block (hcell 0 (by omega)), fun j hj => hcell j (by omega)⟩

theorem rem_form (a : Int) : ∃ k : Nat, wrap64 ((IntKind.u64.wrap a).tmod 8) = (k : Int) ∧ k < 8 := by
  refine ⟨((a % 18446744073709551616) % 8).toNat, ?_, by omega⟩
  rw [IntKind.wrap_u64, tmod_of_emod]
  unfold wrap64
  omega
theorem size30 : (Try.prog.info? 30).map (·.size) = some 1 := by kernel_rfl

theorem right_upd (f : Nat → Int) (k : Nat) (v : Int) (hk : k < 8) (hf : ∀ j, j < 8 → f j = headN j) : rightB 2824 (upd f k v) = decide (v = headN k) := by
  unfold rightB eqB
  simp only [decide_true, Bool.true_and]
  rw [decide_eq_decide]
  constructor
  · intro h
    have := h k hk
    unfold upd at this
    rw [if_pos rfl] at this
    exact this
  · intro h j hj
    unfold upd
    by_cases e : j = k
    · subst e; rw [if_pos rfl]; exact h
    · rw [if_neg e]; exact hf j hj

theorem wpList_append_guarded {P : Program} (w : World) {ops : Array Oper} {rest : List Oper} {o : Oper} {a : Act} {Q : Exit → Act → World → Prop} (hw : Region.wanted o (yielded ops a.tmps) = true) (s x : Operand) (t tn : TypeId)
    (ho : o.op = .call { callee := .builtin .append, args := #[s, x], argTypes := #[t, tn] }) (vs vx : Value) (hs : a.eval s = vs) (hx : a.eval x = vx)
    (v' : Value) (w' : World) (hr : (Builtin.append_ #[t, tn] o.type #[vs, vx]).run P w = .ok v' w') (h : wpList P ops Q rest (a.put o.dst v') w') : wpList P ops Q (o :: rest) a w :=
  wpList_step fun _ hK => by rw [if_pos hw]; exact Lib.wp_append_run w s x t tn ho vs vx hs hx v' w' hr (hK _ _ h)
theorem own_shape {w : World} {B : Nat} {e : TypeId} {s : Nat} {v : Value} {n : Nat} {xs : List Value} (h : w.ownsRow B e s v n xs) (hn : 0 < n) : ∃ g c, v = .slice (some ⟨g, 0, none⟩) n c := by
  rcases h.2 with ⟨_, h0⟩ | ⟨g, cap, cur, rfl, _⟩
  · omega
  · exact ⟨g, cap, rfl⟩
theorem cell_new (w : World) (x : Value) : ∀ j u, ([x] : List Value)[j]? = some u → (w.alloc (.cells #[x] 30)).cell? ((⟨w.heap.size, 0, none⟩ : Addr).add j) = some u := by
  intro j u hj
  match j, hj with
  | 0, hj =>
    cases hj
    rw [Addr.add_lit, World.cell?_alloc_at _ _ _ _ rfl]
    rfl
theorem row_news {w : World} {g : Nat} {f : Nat → Int} (h : RowIs w g f) (n : Nat) (hn : n ≤ 2824) : ∀ j u, (rowI f n)[j]? = some u → w.cell? ((⟨g, 0, none⟩ : Addr).add j) = some u := by
  intro j u hj
  by_cases hl : j < n
  · rw [rowI_at f n j hl] at hj
    cases hj
    rw [Addr.add_lit, Nat.zero_add]
    exact h.cell j (by omega)
  · rw [rowI_out f n j hl] at hj
    cases hj

set_option maxHeartbeats 2000000 in
theorem walk (a : Option Addr) (len cap : Nat) (g : Nat → Int) (x v : Int) (w : World) (_gb : ∀ j, 0 ≤ g j ∧ g j ≤ 18446744073709551615) (hu : UAt w a len g) (_lc : len ≤ cap) (_hr : len * 8 ≤ 140737488351232)
    (_hx : -9223372036854775808 ≤ x ∧ x ≤ 9223372036854775807) (_hv : 0 ≤ v ∧ v ≤ 18446744073709551615) :
    Calls Try.prog 7 #[.slice a len cap, .int .i64 x, .int .u64 v] w fun e w' => e = .returned (.bool true) ∧ Below w.heap.size w w' := by
  have HU : Hid (UAt w a len g) := hu
  clear _gb _hx hu
  obtain ⟨i0, hi, hz0, hz1, hz2⟩ := info_parts Try.info30
  obtain ⟨k, hk, hk8⟩ := rem_form x
  obtain ⟨L, hL⟩ : ∃ L : Nat, L = 2824 := ⟨_, rfl⟩
  have HL : Hid (L = 2824) := hL
  have hL1 : (100 : Int) ≤ (L : Int) := by omega
  have hL2 : (L : Int) ≤ 100000 := by omega
  have hL3 : 100 ≤ L := by omega
  clear hL
  go_enter Try.func7, Try.ntmps7
  go_wp2_with fail
  refine (lives_any _).mono ?_
  rintro e w1 ⟨rfl, hb1⟩
  go_wp2_with fail
  refine (size_any _).mono ?_
  rintro e w' ⟨rfl, rfl⟩
  have hs1 := hb1.size
  go_wp2_with (at_make; refine wpList_make_full _ rfl _ _ 22 rfl w.heap.size 30 i0 (.int .u64 0) 1 Try.underlying22 hi hz0 hz1 _ _ _ _ L rfl rfl ?l1 ?l2 ?b2 ?b3 hs1 ?_)
  case l1 => have := HL.out; omega
  case l2 => have := HL.out; omega
  case b2 => rw [hz2]; omega
  case b3 => unfold maxLen; omega
  intro w2 hown hgrow
  have R2 : Hid (RowIs w2 w'.heap.size (fun _ => 0)) := by
    have e := made_row hown
    rw [HL.out] at e
    exact e
  have B2 : Below w.heap.size w w2 := hb1.grown hgrow hs1 (fun k h => by cases h)
  obtain ⟨G, hG⟩ : ∃ G, w'.heap.size = G := ⟨_, rfl⟩
  rw [hG] at R2 hs1 ⊢
  clear hown hgrow hb1 hG
  obtain ⟨w3, hrun3, R3, B3⟩ := run_copy w2 G 8 _ g a len cap (L - 8) _ R2.out (HU.out.later (Nat.le_refl _) B2) (by have := HL.out; omega) rfl w.heap.size w B2 hs1
  go_wp2_with fail
  clear hrun3
  refine (head_own _).mono ?_
  rintro e w4 ⟨rfl, hcells, hb4, hsz4⟩
  have R4 : Hid (RowIs w4 G _) := R3.out.later (Nat.le_refl _) hb4
  have B4 : Below w.heap.size w w4 := B3.trans (hb4.mono B3.size)
  obtain ⟨w5, hrun5, R5, B5⟩ := run_copy w4 G 0 _ headN (some ⟨w3.heap.size, 0, none⟩) 8 8 L 8 R4.out (.inr ⟨_, 0, rfl, hsz4, fun i hi => by rw [Nat.zero_add]; exact hcells.out i hi⟩) (by have := HL.out; omega) (by rw [HL.out]; rfl) w.heap.size w B4 hs1
  clear hcells
  obtain ⟨f, hf, R⟩ : ∃ f : Nat → Int, Hid (∀ j, j < 8 → f j = headN j) ∧ Hid (RowIs w5 G f) := ⟨_, fun j hj => by unfold over; rw [if_pos ⟨by omega, by omega⟩]; rfl, R5⟩

  have HT : Hid (rightB L f = true) := by
    rw [HL.out]
    show _ = _
    unfold rightB eqB
    rw [decide_eq_true (rfl : 2824 = 2824), Bool.true_and]
    exact decide_eq_true hf.out
  have HT2 : Hid (rightB L (upd f k v) = decide (v = f k)) := by
    rw [HL.out]
    have e := right_upd f k v hk8 hf.out
    rw [← hf.out k hk8] at e
    exact e
  have hs5 := B5.size
  go_wp2_with fail
  refine (right_any _ L _ f _ (R.out.uAt L (by have := HL.out; omega)) (Nat.le_refl _)).mono ?_
  rintro e w6 ⟨rfl, hb6⟩
  rw [Hid.out HT]
  have R6 : Hid (RowIs w6 G f) := R.out.later (Nat.le_refl _) hb6
  have B6 : Below w.heap.size w w6 := B5.trans (hb6.mono hs5)
  obtain ⟨v7, w7, hrun7, own7, gr7, -⟩ := run_append_own (P := Try.prog) w6 w6.heap.size 22 22 30 i0 (.int .u64 0) 1 8 Try.underlying22 hi hz0 hz1 hz2 rfl (by decide) (.slice none 0 0) 0 [] (World.ownsRow_nil _ _ _ _) ⟨G, 0, none⟩ L L (rowI f L) (by rw [rowI_len]; omega) (row_news R6.out L (by have := HL.out; omega)) (rowI_one _ _) (by unfold maxLen; omega) (by omega) (Nat.le_refl _)
  rw [Nat.zero_add] at own7
  have B7 : Below w6.heap.size w6 w7 := (Below.refl _ _).grown gr7 (Nat.le_refl _) (fun k h => by cases h)
  obtain ⟨g7, c7, rfl⟩ := own_shape own7 (by omega)
  have own7' := own7.alloc (.cells #[.int .u64 0] 30)
  obtain ⟨v8, w8, hrun8, own8, gr8, -⟩ := run_append_own (P := Try.prog) (w7.alloc (.cells #[.int .u64 0] 30)) w6.heap.size 22 22 30 i0 (.int .u64 0) 1 8 Try.underlying22 hi hz0 hz1 hz2 rfl (by decide) _ _ _ own7' ⟨w7.heap.size, 0, none⟩ 1 1 [.int .u64 0] rfl (cell_new w7 _) (by simp [Value.oneCell']) (by unfold maxLen; omega) (by omega) (by have := B7.size; rw [World.size_alloc]; omega)
  have B8 : Below w6.heap.size w6 w8 := (B7.alloc B7.size _).grown gr8 (by have := B7.size; rw [World.size_alloc]; omega) (fun k h => (own7.lt k h).1)
  obtain ⟨g8, c8, rfl⟩ := own_shape own8 (by omega)
  have hs6 := B6.size
  have B9 : Below w.heap.size w w8 := B6.trans (B8.mono hs6)
  have R8 : Hid (RowIs w8 G f) := R6.out.later (Nat.le_refl _) B8
  have hs9 := B9.size
  clear own7 own8 own7' gr7 gr8
  have K7 : Hid _ := hrun7
  have K8 : Hid _ := hrun8
  clear hrun7 hrun8
  go_wp2_with (at_builtin; first | refine wpList_append_guarded _ rfl _ _ _ _ rfl _ _ rfl rfl _ _ (Hid.out K7) ?_ | refine wpList_append_guarded _ rfl _ _ _ _ rfl _ _ rfl rfl _ _ (Hid.out K8) ?_)
  refine (right_len _ (L + 1) _ _ (by have := HL.out; omega)).mono ?_
  rintro e w9 ⟨rfl, hb9⟩
  have R9 : Hid (RowIs w9 G f) := R8.out.later (Nat.le_refl _) hb9
  have B10 : Below w.heap.size w w9 := B9.trans (hb9.mono hs9)
  have hs10 := B10.size
  go_wp2_with fail
  refine (right_len _ (L - 1) _ _ (by have := HL.out; omega)).mono ?_
  rintro e w10 ⟨rfl, hb10⟩
  have R10 : Hid (RowIs w10 G f) := R9.out.later (Nat.le_refl _) hb10
  have B11 : Below w.heap.size w w10 := B10.trans (hb10.mono hs10)
  have hs11 := B11.size
  have hc := R10.out.cell k (by omega)
  have hz := R10.out.frozen k
  have hkL : (k : Int) < (L : Int) := by omega
  have R11 : Hid (RowIs (w10.setCell ⟨G, k, none⟩ (.int .u64 v)) G (upd f k v)) := R10.out.set k v
  have B12 : Below w.heap.size w (w10.setCell ⟨G, k, none⟩ (.int .u64 v)) := B11.setCell (p := ⟨G, k, none⟩) hs1 _
  have hs12 := B12.size
  clear hrun5 K7 K8
  go_wp2_with fail
  refine (right_any _ L _ (upd f k v) _ (R11.out.uAt L (by have := HL.out; omega)) (Nat.le_refl _)).mono ?_
  rintro e w13 ⟨rfl, hb13⟩
  rw [Hid.out HT2]
  go_wp2
  go_ret
  refine ⟨ret_bool ?_, B12.trans (hb13.mono hs12)⟩
  rw [beq_iff_eq, Bool.eq_iff_iff, decide_eq_true_eq, beq_iff_eq]

set_option maxRecDepth 100000 in
theorem lifted (os : Os) (started : os.Started) (H : Type) (enc : TypeId × Value → H) :
    ReturnsInHanded {} Try.checked os 7 .any (Rows.planHeadSpec.pre6 enc Try.prog Try.f7 Rows.planHeadRow.domain false) (Rows.planHeadSpec.post enc Try.prog Try.f7 false true false false) := by
  refine returnsInHanded_of_change_sized (C := Try.checked) own started (by kernel_rfl) Try.func7
    (ChangeSpec.witness6 (enc := enc) (C := Try.checked) false ⟨#[], #[.slice none 0 0, .int .i64 0, .int .u64 0], []⟩ 8 (by kernel_rfl) (by kernel_rfl) (by kernel_rfl) (by kernel_rfl)) ?_
  intro W base args ds gs before hval0 hW hcnd hsz0 _
  have hval : ∀ (j : Nat) t v, Try.f7.params[j]? = some t → args[j]? = some v → Value.okWide Try.prog W .any base t v := hval0
  have hW' := hW
  obtain ⟨p, q, hA0, hV, rfl, hfz, hnd⟩ := hW
  have hA : DataW.TrodAll enc Try.prog W 0 (fun _ => true) true Try.f7.params.toList args.toList ds p := hA0
  have hsz : (DataW.weightsEach Try.prog (Try.f7.params.toList ++ Rows.planHeadSpec.plain.varTypes Try.prog) (ds ++ gs)).all (· ≤ reachBytes) = true := hsz0
  rw [Try.params7] at hA hval hsz
  obtain ⟨v0, vs0, d0, ds0, p0, q0, hargs, rfl, rfl, h0, r0⟩ := trodAll_cons hA
  obtain ⟨v1, vs1, d1, ds1, p1, q1, rfl, rfl, rfl, h1, r1⟩ := trodAll_cons r0
  obtain ⟨v2, vs2, d2, ds2, p2, q2, rfl, rfl, rfl, h2, r2⟩ := trodAll_cons r1
  obtain ⟨rfl, rfl, rfl⟩ := trodAll_nil r2
  obtain rfl : args = #[v0, v1, v2] := by cases args; simp_all
  obtain ⟨rfl, rfl⟩ := trodVars_none hV
  obtain ⟨a0, len0, cap0, rfl⟩ := okWide_slice Try.underlying22 (hval 0 22 v0 rfl rfl)
  have k0 := h0
  have lt0 : ∀ x ∈ p0, x.block < W.heap.size := by obtain ⟨m, hm⟩ := k0; exact DataW.trod_lt m _ _ _ hm
  obtain ⟨g0, gb0, w0, lc0, hr0⟩ : ∃ g : Nat → Int, (∀ j, 0 ≤ g j ∧ g j ≤ 18446744073709551615) ∧ UAt W a0 len0 g ∧ len0 ≤ cap0 ∧ len0 * 8 ≤ 140737488351232 := by
    obtain ⟨fuel, hf⟩ := h0
    rcases open_ints Try.underlying22 Try.underlying30 (by kernel_rfl) hf with ⟨hcs, _⟩ | ⟨x, l, c, zs, hcs, _, hl, hm, hz, hx, hcell, hwz⟩
    · simp [Value.cells] at hcs
      obtain ⟨rfl, rfl, rfl⟩ := hcs
      exact ⟨fun _ => 0, fun _ => by simp, .inl rfl, by omega, by omega⟩
    · simp [Value.cells] at hcs
      obtain ⟨rfl, rfl, rfl⟩ := hcs
      simp only [Prod.mk.injEq] at hx
      have hd : d0 = _ := hx.1
      have hz' : zs.length = cap0 := by simpa using hz
      have hr : len0 * 8 ≤ 140737488351232 := by
        rw [hd] at hsz
        have := sized_slice hsz (j := 0) (t := 22) (e := 30) rfl rfl Try.underlying22
        rw [bytes30] at this
        simp only [lits, List.length_map, List.length_take, List.length_drop, reachBytes] at this
        omega
      refine ⟨fun j => zs.getD j 0, fun j => ?_, uAt_of hl hz' hcell, hl, hr⟩
      have := range_u64 hwz j
      rw [← List.getD_eq_getElem?_getD] at this
      exact this
  obtain ⟨a1, rfl, rfl, rfl, w1⟩ := open_int Try.underlying3 (hval 1 3 v1 rfl rfl) h1
  obtain ⟨a2, rfl, rfl, rfl, w2⟩ := open_int Try.underlying30 (hval 2 30 v2 rfl rfl) h2
  clear hA0 hval0
  refine (walk a0 len0 cap0 g0 a1 a2 W gb0 w0 lc0 hr0 (bounds_i64 w1) (bounds_u64 w2)).mono fun e W' ⟨he, bel⟩ => ?_
  subst he
  exact ⟨_, rfl, _, _, _, [], _, [], hW', trodAll_mk1 (shut_bool Try.underlying4 _), (trodAll_cons_mk (Below.trod laidOut (by kernel_rfl) (of_decide_eq_true (by kernel_rfl)) k0 bel lt0) (trodAll_cons_mk (shut_int Try.underlying3 w1) (trodAll_cons_mk (shut_int Try.underlying30 w2) trodAll_mk0))), rfl, bel.frame _, fun h => by cases h⟩

theorem over : Rows.planHeadRow.holds Try.pinned (OpenSpec.ofChange Rows.planHeadSpec) :=
  OpenClaim.holds_of_wide 7 Try.f7 rfl rfl rfl rfl rfl rfl rfl ⟨rfl, rfl, rfl, rfl, rfl⟩ rfl rfl rfl rfl rfl (by kernel_rfl) Try.func7 (by kernel_rfl)
    (of_decide_eq_true (by kernel_rfl)) (by unfold Func.isWrapper; first | (rw [if_pos (by decide +kernel)]; kernel_rfl) | (rw [if_neg (by decide +kernel)]; exact ⟨rfl, rfl⟩))
    (fun os started H enc _ => lifted os started H enc)

theorem proved : Rows.PlanHeadSaid := over
#print axioms proved
end Go.Proofs.Ytmpnofdgfminlaa.planHead
