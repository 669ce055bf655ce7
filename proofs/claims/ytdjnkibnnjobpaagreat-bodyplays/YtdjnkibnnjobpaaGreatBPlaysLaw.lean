/- BodyPlays: behind every script of writes, cuts and reads a file's bytes and the errors are what the document says. No condition. -/
import Derived.Test.YtdjnkibnnjobpaaGreatBdX
import Derived.Test.YtdjnkibnnjobpaaGreatRows
import Derived.Test.YtdjnkibnnjobpaaGreatChecked
namespace Go.Proofs.YtdjnkibnnjobpaaGreat.bodyPlays
open Go.RowKit Go.Maps Go.ChangeMaps Go.ChangeShapes Go.WideShapes Go.ChangeAt Go.Deep Go.Joins
set_option linter.unusedVariables false

set_option maxHeartbeats 4000000 in
set_option maxRecDepth 100000 in
theorem walk (aa : Option Addr) (ac : Nat) (ops : List Bop) (w : World) (ha : BopsIn w aa ac ops) :
    Calls Tryz.prog 3 #[.slice aa ops.length ac] w fun e w' => e = .returned (.bool true) ∧ Below w.heap.size w w' := by
  have HA : Hid (BopsIn w aa ac (ops.take 50)) := ha.take 50
  have EA : Hid (∀ w', Calls Tryz.prog 9 #[.slice aa ops.length ac] w' fun e w'' => e = .returned (.slice aa (ops.take 50).length ac) ∧ w'' = w') := fun w' => early_any w w' aa ac ops ha
  obtain ⟨la, hla⟩ : ∃ n, ops.length = n := ⟨_, rfl⟩
  have h50 : (ops.take 50).length ≤ 50 := by rw [List.length_take]; omega
  obtain ⟨xs, hxs⟩ : ∃ l, ops.take 50 = l := ⟨_, rfl⟩
  rw [hla] at EA ⊢
  rw [hxs] at HA EA h50
  obtain ⟨na, hna⟩ : ∃ n, xs.length = n := ⟨_, rfl⟩
  have HNA : Hid (xs.length = na) := hna
  rw [hna] at EA h50
  clear ha hla hxs hna
  have pk0 := pick0
  go_enter Tryz.func3, Tryz.ntmps3
  go_wp2_with fail
  refine (lives_any _).mono ?_
  rintro e w0 ⟨rfl, hb0⟩
  have HB0 : Hid (Below w.heap.size w w0) := hb0
  clear hb0
  go_wp2_with fail
  refine (two_any _).mono ?_
  rintro e w1 ⟨b1, b2, V, L, rfl, _, hf1, _, hb1, hlow1, _, hlv, hll⟩
  have HF1 : Hid (FSt w1 b1 V Vw.new L M0 0 2 newC ⟨#[]⟩) := hf1
  have HB1 : Hid (Below w.heap.size w w1) := HB0.out.trans (hb1.mono HB0.out.size)
  have HLO : Hid (w.heap.size ≤ b1 ∧ ∀ x ∈ L.blocks, w.heap.size ≤ x) := ⟨Nat.le_trans HB0.out.size hlow1, fun x hx => Nat.le_trans HB0.out.size (hll x hx)⟩
  have HLV : Hid (∀ x ∈ V.all, w.heap.size ≤ x) := fun x hx => Nat.le_trans HB0.out.size (hlv x hx)
  clear hf1 hb1 hlow1 hlv hll
  go_wp2_with fail
  refine Calls.mono (EA.out _) ?_
  rintro e w2 ⟨rfl, rfl⟩
  go_wp2
  go_loopw [4] (fun i wr => ∃ (j : Nat) (V' : VLay) (S' : Vw) (M' : Mem) (c' : Crd) (t' : ByteArray), j ≤ na ∧ i = .int .i64 j ∧ Hid (FSt wr b1 V' S' L M' (2824 * j) 2 c' t') ∧ Hid (∀ x ∈ V'.all, w.heap.size ≤ x) ∧ Hid (Below w.heap.size w wr)) (fun i _ => na - (intOf i).toNat)
  case atStart => exact ⟨0, V, _, _, _, _, Nat.zero_le _, rfl, HF1, HLV, HB1⟩
  case round =>
    obtain ⟨j, V', S', M', c', t', hj, rfl, HF, HV, HB⟩ := hrel
    by_cases hlt : j < na
    · have hjn : (j : Int) < (na : Int) := by omega
      obtain ⟨g, o, rfl, hgl, hc⟩ := HA.out.at_.resolve_left (fun e => by have := HNA.out; rw [e] at this; simp at this; omega)
      obtain ⟨x, hin⟩ := hc j (by rw [HNA.out]; exact hlt)
      obtain ⟨oo, hoo⟩ : ∃ z, xs.getD j noBop = z := ⟨_, rfl⟩
      rw [hoo] at x hin
      have hx : ∀ i, wr.cell? ⟨g, i, none⟩ = w.cell? ⟨g, i, none⟩ := fun i => World.cell?_of_block (a := ⟨g, i, none⟩) (HB.out.block g hgl)
      have x0 : wr.cell? ⟨g, o + j * 4, none⟩ = some (.int .i64 oo.kind) := by rw [hx]; exact x 0 (by omega)
      have x1 : wr.cell? ⟨g, o + j * 4 + 1, none⟩ = some (.int .i64 oo.at_) := by rw [hx]; exact x 1 (by omega)
      have x2 : wr.cell? ⟨g, o + j * 4 + 2, none⟩ = some (.int .i64 oo.n) := by rw [hx]; exact x 2 (by omega)
      have x3 : wr.cell? ⟨g, o + j * 4 + 3, none⟩ = some (.string oo.data) := by rw [hx]; exact x 3 (by omega)
      have HS : Hid (Calls Tryz.prog 10 #[.pointer (some ⟨b1, 0, none⟩), .agg #[.int .i64 oo.kind, .int .i64 oo.at_, .int .i64 oo.n, .string oo.data]] wr fun e w' => StepTo b1 V' L M' (2824 * j) 2 wr w' e) :=
        step_any b1 V' S' L M' (2824 * j) 2 c' t' oo wr HF.out (by omega) (by omega) (by omega) (bounds_i64 hin.at_).2
      clear hc x hin hoo hx
      go_wp2_with fail
      refine Calls.mono HS.out ?_
      rintro e w5 ⟨rfl, V2, S2, M2, c2, t2, hvb, hsub, hf2, _, ho2⟩
      have HF2 : Hid (FSt w5 b1 V2 S2 L M2 (2824 * (j + 1)) 2 c2 t2) := by rw [show 2824 * (j + 1) = 2824 * j + 2824 by omega]; exact hf2
      have HV2 : Hid (∀ x ∈ V2.all, w.heap.size ≤ x) := fun x hx => (hsub x hx).elim (HV.out x) (fun h => Nat.le_trans HB.out.size h)
      have HB5 : Hid (Below w.heap.size w w5) := HB.out.trans (ho2.below HB.out.size fun k hk => by
        simp only [List.cons_append, List.mem_cons, List.mem_append] at hk
        rcases hk with hk | hk | hk
        · rw [hk]; exact HLO.out.1
        · exact HV.out k (blocks_sub hk)
        · exact HLO.out.2 k hk)
      clear x0 x1 x2 x3 hvb hsub hf2 ho2
      go_wp2
      go_roundw
      case rel => exact ⟨j + 1, V2, S2, M2, c2, t2, by omega, by go_num, HF2, HV2, HB5⟩
      case measure => simp [intOf]; omega
    · have hjn : ¬ (j : Int) < (na : Int) := by omega
      go_wp2_with fail
      refine (whole_any b1 V' S' L M' (2824 * j) 2 c' t' _ HF.out).mono ?_
      rintro e w6 ⟨rfl, hb6⟩
      have HB6 : Hid (Below w.heap.size w w6) := HB.out.trans (hb6.mono HB.out.size)
      clear hb6
      go_wp2
      go_ret
      exact ⟨rfl, HB6.out⟩

set_option maxRecDepth 100000 in
theorem lifted (os : Os) (started : os.Started) (H : Type) (enc : TypeId × Value → H) :
    ReturnsInHanded {} Tryz.checked os 3 .any (Rows.bodyPlaysSpec.pre6 enc Tryz.prog Tryz.f3 Rows.bodyPlaysRow.domain false) (Rows.bodyPlaysSpec.post enc Tryz.prog Tryz.f3 false true false false) := by
  refine returnsInHanded_of_change (C := Tryz.checked) own started (by kernel_rfl) Tryz.func3
    (ChangeSpec.witness6 (enc := enc) (C := Tryz.checked) false ⟨#[], #[.slice none 0 0], []⟩ 8 (by kernel_rfl) (by kernel_rfl) (by kernel_rfl) (by kernel_rfl)) ?_
  intro W base args ds gs before hval0 hW hcnd _
  have hval : ∀ (j : Nat) t v, Tryz.f3.params[j]? = some t → args[j]? = some v → Value.okWide Tryz.prog W .any base t v := hval0
  have hW' := hW
  obtain ⟨p, q, hA0, hV, rfl, hfz, hnd⟩ := hW
  have hA : DataW.TrodAll enc Tryz.prog W 0 (fun _ => true) true Tryz.f3.params.toList args.toList ds p := hA0
  rw [Tryz.params3] at hA hval
  obtain ⟨v0, vs0, d0, ds0, p0, q0, hargs, rfl, rfl, h0, r0⟩ := trodAll_cons hA
  obtain ⟨rfl, rfl, rfl⟩ := trodAll_nil r0
  obtain rfl : args = #[v0] := by cases args; simp_all
  obtain ⟨rfl, rfl⟩ := trodVars_none hV
  have k0 := h0
  have lt0 : ∀ x ∈ p0, x.block < W.heap.size := by obtain ⟨m, hm⟩ := k0; exact DataW.trod_lt m _ _ _ hm
  obtain ⟨a0, len0, cap0, rfl⟩ := okWide_slice Tryz.underlying22 (hval 0 22 v0 rfl rfl)
  obtain ⟨cs0, hl0, w0⟩ := open_bops rfl h0
  subst hl0
  clear hA0 hval0
  refine (walk a0 cap0 cs0 W w0).mono fun e W' ⟨he, bel⟩ => ?_
  subst he
  exact ⟨_, rfl, _, _, _, [], _, [], hW', trodAll_mk1 (shut_bool Tryz.underlying4 _), (trodAll_cons_mk (Below.trod laidOut (by kernel_rfl) (of_decide_eq_true (by kernel_rfl)) k0 bel lt0) trodAll_mk0), rfl, bel.frame _, fun h => by cases h⟩

theorem over : Rows.bodyPlaysRow.holds Tryz.pinned (OpenSpec.ofChange Rows.bodyPlaysSpec) :=
  OpenClaim.holds_of_wide 3 Tryz.f3 rfl rfl rfl rfl rfl rfl rfl ⟨rfl, rfl, rfl, rfl, rfl⟩ rfl rfl rfl rfl rfl (by kernel_rfl) Tryz.func3 (by kernel_rfl)
    (of_decide_eq_true (by kernel_rfl)) (by unfold Func.isWrapper; first | (rw [if_pos (by decide +kernel)]; kernel_rfl) | (rw [if_neg (by decide +kernel)]; exact ⟨rfl, rfl⟩))
    (fun os started H enc _ => lifted os started H enc)

theorem proved : Rows.BodyPlaysSaid := over
#print axioms proved
end Go.Proofs.YtdjnkibnnjobpaaGreat.bodyPlays
