/- MemoryStops: for every script and every number, from the call on at which the memory stands still nothing changes, till a crash: the law returns true, and leaves its arguments as they were. No condition. -/
import Derived.Test.YtoabgkkfhoiagaaRows
import Derived.Test.YtoabgkkfhoiagaaSame
import Derived.WalkKit
import Derived.ProofKit
import Derived.OpenShut
import Derived.ShutString
import Derived.ChangeOld
import Derived.Below
namespace Go.Proofs.Ytoabgkkfhoiagaa.memoryStops
open Go.ChangeShapes Go.WideShapes Go.ChangeAt Go.RowKit
set_option linter.unusedVariables false

theorem own : ownKnob Try.prog.godebug = none := by kernel_rfl
theorem laidOut : laidOutB Try.prog = true := by kernel_rfl

theorem done_keeps (M : Mem) (o : Step) (h : o.k ≤ 2) : (M.done o).calls = M.calls + 1 ∧ (M.done o).sure.length = M.sure.length ∧ (M.done o).stops = M.stops ∧ (M.done o).stopAt = M.stopAt := by
  rcases o.k_cases with hk | hk | hk | hk | hk | hk
  · rw [(step0 M o hk).2]; unfold Mem.store; split <;> simp [Mem.counted]
  · rw [(step1 M o hk).2]; unfold Mem.flush; split <;> simp [Mem.counted]
  · rw [(step2 M o hk).2]; unfold Mem.fence; split <;> simp [Mem.counted, fenceTo, sureTo]
  all_goals omega

theorem does_still (M : Mem) (o : Step) (h : o.k ≤ 2) (hs : M.still = true) : M.does o = 14 ∧ M.done o = M.counted := by
  have e1 : ∀ k, M.errAt k = 14 := fun k => by simp [Mem.errAt, hs]
  have e2 : M.err = 14 := by simp [Mem.err, hs]
  rcases o.k_cases with hk | hk | hk | hk | hk | hk
  · rw [(step0 M o hk).1, (step0 M o hk).2]; simp [Mem.store, e1]
  · rw [(step1 M o hk).1, (step1 M o hk).2]; simp [Mem.flush, e1]
  · rw [(step2 M o hk).1, (step2 M o hk).2]; simp [Mem.fence, e2]
  all_goals omega

theorem does_goes (M : Mem) (o : Step) (h : o.k ≤ 2) (hs : M.still = false) : ¬ M.does o = 14 := by
  have e1 : ∀ k, ¬ M.errAt k = 14 := fun k => by simp [Mem.errAt, hs]; split <;> simp
  have e2 : ¬ M.err = 14 := by simp [Mem.err, hs]
  rcases o.k_cases with hk | hk | hk | hk | hk | hk
  · rw [(step0 M o hk).1]; exact e1 _
  · rw [(step1 M o hk).1]; exact e1 _
  · rw [(step2 M o hk).1]; exact e2
  all_goals omega

set_option maxHeartbeats 4000000 in
set_option maxRecDepth 100000 in
theorem walk (a : Option Addr) (cap : Nat) (ops : List Step) (n : Int) (w : World) (h : OpsAt w a cap ops) (hn : (Lit.int .i64 n).wf = true) :
    Calls Try.prog 6 #[.slice a ops.length cap, .int .i64 n] w fun e w' => e = .returned (.bool true) ∧ Below w.heap.size w w' := by
  obtain ⟨nn, hN, hn60⟩ : ∃ nn : Nat, wrap64 ((IntKind.u64.wrap n).tmod 60) = (nn : Int) ∧ nn < 60 := by
    have h0 : 0 ≤ IntKind.u64.wrap n := by simp only [IntKind.wrap_u64]; omega
    have h1 : (IntKind.u64.wrap n).tmod 60 = (IntKind.u64.wrap n) % 60 := Int.tmod_eq_emod_of_nonneg h0
    refine ⟨((IntKind.u64.wrap n) % 60).toNat, ?_, by omega⟩
    rw [h1]; unfold wrap64; omega
  have hE := early_any w
  have hO := h.early
  have hlen : (ops.take 200).length ≤ 200 := by simp; omega
  have he := hE
  go_enter Try.func6, Try.ntmps6
  go_wp2_with fail
  refine (lives_any _).mono ?_
  rintro e w1 ⟨rfl, b1⟩
  go_wp2_with fail
  refine (early_any w _ a cap ops h).mono ?_
  rintro e w2 ⟨rfl, hw⟩
  obtain rfl := hw.symm
  clear hE he h
  generalize hops : ops.take 200 = sc at *
  go_wp2_with fail
  refine (new_any 30 30 _ (by decide)).mono ?_
  rintro e w2 ⟨L, rfl, hM0, hL, b2⟩
  have b2' := b1.trans (b2.mono b1.size)
  have hL' : ∀ j ∈ L.blocks, w.heap.size ≤ j := fun j hj => Nat.le_trans b1.size (hL j hj)
  go_wp2_with fail
  refine (stop_any L _ nn _ hM0 (by decide)).mono ?_
  rintro e w3 ⟨rfl, hM1, o1⟩
  have hst : (fresh (List.replicate 30 0)).stop nn = { fresh (List.replicate 30 0) with stops := true, stopAt := nn } := by
    unfold Mem.stop
    rw [if_pos (by omega)]
    simp [fresh]
  rw [hst] at hM1
  have b3 := below_only b2' o1 b2'.size hL'
  go_wp2
  go_loopw [6] (fun i wr => ∃ (k : Nat) (M : Mem), k ≤ sc.length ∧ i = .int .i64 k ∧ MemIs wr L M ∧ M.sure.length = 30 ∧ M.stops = true ∧ M.stopAt = nn ∧ M.calls ≤ k ∧ Below w.heap.size w wr) (fun i _ => sc.length - (intOf i).toNat)
  case atStart => exact ⟨0, _, Nat.zero_le _, rfl, hM1, rfl, rfl, rfl, Nat.le_refl _, b3⟩
  case round =>
    obtain ⟨k, M, hk, rfl, hM, hsl, hms, hmt, hmc, hb⟩ := hrel
    have HSL : Hid (M.sure.length = 30) := hsl
    have hsl30 : M.sure.length ≤ 30 := Nat.le_of_eq hsl
    clear hsl
    by_cases hlt : k < sc.length
    · obtain ⟨b, off, rfl, hbl, hstep⟩ : ∃ b off, a = some ⟨b, off, none⟩ ∧ b < w.heap.size ∧ StepAt w b (off + k * 4) (sc.getD k noStep) := by
        rcases hO.2.2 with ⟨_, e, _⟩ | ⟨x, rfl, e | ⟨b, off, rfl, hbl, hs⟩⟩
        · rw [e] at hlt; exact absurd hlt (Nat.not_lt_zero _)
        · rw [e] at hlt; exact absurd hlt (Nat.not_lt_zero _)
        · exact ⟨b, off, rfl, hbl, hs k hlt⟩
      generalize sc.getD k noStep = o at hstep
      obtain ⟨kv, s0, s1, s2, s3, hka, ho⟩ := hstep
      have t0 := (hb.cell (p := ⟨b, off + k * 4, none⟩) hbl).trans s0
      have t1 := (hb.cell (p := ⟨b, off + k * 4 + 1, none⟩) hbl).trans s1
      have t2 := (hb.cell (p := ⟨b, off + k * 4 + 2, none⟩) hbl).trans s2
      have t3 := (hb.cell (p := ⟨b, off + k * 4 + 3, none⟩) hbl).trans s3
      have hki : (k : Int) < (sc.length : Int) := by omega
      clear hO
      have cell : ∀ W : World, Below w.heap.size w W → W.cell? ⟨b, off + k * 4, none⟩ = some (.int .i64 o.kind) ∧ W.cell? ⟨b, off + k * 4 + 1, none⟩ = some (.int .i64 o.at_) ∧ W.cell? ⟨b, off + k * 4 + 2, none⟩ = some (.int .u64 o.v) ∧ W.cell? ⟨b, off + k * 4 + 3, none⟩ = some kv := fun W hW =>
        ⟨(hW.cell (p := ⟨b, off + k * 4, none⟩) hbl).trans s0, (hW.cell (p := ⟨b, off + k * 4 + 1, none⟩) hbl).trans s1, (hW.cell (p := ⟨b, off + k * 4 + 2, none⟩) hbl).trans s2, (hW.cell (p := ⟨b, off + k * 4 + 3, none⟩) hbl).trans s3⟩
      clear s0 s1 s2 s3
      have CELL : Hid _ := cell
      clear cell
      go_wp2_with fail
      refine (kind_any o kv _).mono ?_
      rintro e w4 ⟨rfl, b4⟩
      have bb4 := hb.trans (b4.mono hb.size)
      have M4 := hM.below b4 hM.all_lt
      clear t0 t1 t2 t3
      by_cases hk2 : 2 < o.k
      · go_wp2
        go_roundw
        case rel => exact ⟨k + 1, M, by omega, by go_num, M4, HSL.out, hms, hmt, by omega, bb4⟩
        case measure => simp [intOf]; omega
      · replace hk2 : o.k ≤ 2 := by omega
        have hc9 : M.calls < 1000000000 := by omega
        obtain ⟨d1, d2, d3, d4⟩ := done_keeps M o hk2
        have HD2 : Hid ((M.done o).sure.length = M.sure.length) := d2
        clear d2
        go_wp2_with fail
        refine (image_any L M _ M4).mono ?_
        rintro e w5 ⟨rfl, row5, b5⟩
        have bb5 := bb4.trans (b5.mono bb4.size)
        have M5 := M4.below b5 M4.all_lt
        go_wp2_with fail
        refine (calls_any L M _ M5).mono ?_
        rintro e w6 ⟨rfl, hw⟩
        obtain rfl := hw.symm
        obtain ⟨t0, t1, t2, t3⟩ := CELL.out w5 bb5
        go_wp2_with fail
        refine (does_any L M o kv _ M5 hc9 ho (hka.is bb5 hL')).mono ?_
        rintro e w6 ⟨rfl, M6, o6⟩
        clear t0 t1 t2 t3
        have bb6 := below_only bb5 o6 bb5.size hL'
        cases hs : M.still with
        | true =>
          obtain ⟨e1, e2⟩ := does_still M o hk2 hs
          have hge : (nn : Int) ≤ (M.calls : Int) := by
            have := hs
            simp only [Mem.still, hms, hmt, Bool.true_and, decide_eq_true_eq] at this
            exact this
          have him : (M.done o).image = M.image := by rw [e2]; rfl
          clear e2
          have hr5 : RowIs .u64 w6 (some ⟨w4.heap.size, 0, none⟩) M.image := (rowIs_of_owns row5).only o6 (fun x hx hm => by cases hx; exact absurd (M4.all_lt _ hm) (Nat.lt_irrefl _))
          rw [e1]
          have d1' : ((M.done o).calls : Int) = (M.calls : Int) + 1 := by omega
          go_wp2_with fail
          refine (calls_any L (M.done o) _ M6).mono ?_
          rintro e w7 ⟨rfl, hw⟩
          obtain rfl := hw.symm
          rw [d1']
          go_wp2_with fail
          refine (image_any L (M.done o) _ M6).mono ?_
          rintro e w7 ⟨rfl, row7, b7⟩
          have M7 := M6.below b7 M6.all_lt
          have bb7 := bb6.trans (b7.mono bb6.size)
          have hr7 := rowIs_of_owns row7
          have hr5' := hr5.below b7
          have hsame := same_any w7 (some ⟨w4.heap.size, 0, none⟩) (some ⟨w6.heap.size, 0, none⟩) M.sure.length (M.done o).sure.length M.image (M.done o).image hr5' hr7 (by simp [Mem.image]; omega)
          have l1 : M.image.length = M.sure.length := by simp [Mem.image]
          have l2 : (M.done o).image.length = (M.done o).sure.length := by simp [Mem.image]
          rw [l1, l2] at hsame
          have htrue : decide (M.image = (M.done o).image) = true := by rw [him]; simp
          rw [htrue] at hsame
          have HS : Hid _ := hsame
          clear hsame l1 l2 him hr5 hr5' hr7 row5 row7 htrue
          go_wp2_with fail
          refine Calls.mono (Hid.out HS) ?_
          rintro e w8 ⟨rfl, b8⟩
          go_wp2
          go_roundw
          case rel => exact ⟨k + 1, M.done o, by omega, by go_num, M7.below (b8 w7.heap.size) M7.all_lt, HD2.out.trans HSL.out, by rw [d3, hms], by rw [d4, hmt], by omega, bb7.trans (b8 _)⟩
          case measure => simp [intOf]; omega
        | false =>
          have e1 := does_goes M o hk2 hs
          have e1b : (M.does o == 14) = false := by simpa using e1
          have hge : ¬ (nn : Int) ≤ (M.calls : Int) := by
            have := hs
            simp only [Mem.still, hms, hmt, Bool.true_and, decide_eq_false_iff_not] at this
            exact this
          have d1' : ((M.done o).calls : Int) = (M.calls : Int) + 1 := by omega
          go_wp2_with fail
          refine (calls_any L (M.done o) _ M6).mono ?_
          rintro e w7 ⟨rfl, hw⟩
          obtain rfl := hw.symm
          rw [d1']
          go_wp2
          go_roundw
          case rel => exact ⟨k + 1, M.done o, by omega, by go_num, M6, HD2.out.trans HSL.out, by rw [d3, hms], by rw [d4, hmt], by omega, bb6⟩
          case measure => simp [intOf]; omega
    · obtain rfl : k = sc.length := by omega
      have hc9 : M.calls < 1000000000 := by omega
      go_wp2_with fail
      refine (crash_any L M _ [] _ hM hc9 (keepIs_nil _ _) (by decide)).mono ?_
      rintro e w4 ⟨rfl, M4, o4⟩
      have bb4 := below_only hb o4 hb.size hL'
      have hsl4 : (M.crash []).sure.length = 30 := by show (crashTo M [] _).length = 30; rw [crashTo_len]; exact HSL.out
      have e1 : (M.crash []).errAt 0 = 0 := by
        have h1 : (M.crash []).still = false := rfl
        have h2 : (M.crash []).has 0 = true := by unfold Mem.has; rw [hsl4]; decide
        unfold Mem.errAt
        rw [h1, h2]; rfl
      go_wp2_with fail
      refine (store_any L (M.crash []) 0 9 _ M4 hc9 (by decide) (by decide)).mono ?_
      rintro e w5 ⟨rfl, M5, o5⟩
      have bb5 := below_only bb4 o5 bb4.size hL'
      rw [e1]
      have e2 : ((M.crash []).store 0 9).read 0 = 9 := by
        unfold Mem.store
        rw [if_pos e1]
        unfold Mem.read
        rw [if_pos]
        · show (upd (M.crash []).loose 0 (some 9) 0).getD _ = 9
          rw [upd_same]; rfl
        · unfold Mem.has
          have : ({ (M.crash []).counted with loose := upd (M.crash []).loose 0 (some 9) } : Mem).sure.length = 30 := hsl4
          rw [this]; decide
      go_wp2_with fail
      refine (read_any L _ 0 _ M5 (by decide)).mono ?_
      rintro e w6 ⟨rfl, hw⟩
      obtain rfl := hw.symm
      rw [e2]
      go_wp2
      go_ret
      exact ⟨rfl, bb5⟩

set_option maxRecDepth 100000 in
theorem lifted (os : Os) (started : os.Started) (H : Type) (enc : TypeId × Value → H) :
    ReturnsInHanded {} Try.checked os 6 .any (Rows.memoryStopsSpec.pre6 enc Try.prog Try.f6 Rows.memoryStopsRow.domain false) (Rows.memoryStopsSpec.post enc Try.prog Try.f6 false true false false) := by
  refine returnsInHanded_of_change (C := Try.checked) own started (by kernel_rfl) Try.func6
    (ChangeSpec.witness6 (enc := enc) (C := Try.checked) false ⟨#[], #[.slice none 0 0, .int .i64 0], []⟩ 8 (by kernel_rfl) (by kernel_rfl) (by kernel_rfl) (by kernel_rfl)) ?_
  intro W base args ds gs before hval0 hW hcnd _
  have hval : ∀ (j : Nat) t v, Try.f6.params[j]? = some t → args[j]? = some v → Value.okWide Try.prog W .any base t v := hval0
  have hW' := hW
  obtain ⟨p, q, hA0, hV, rfl, hfz, hnd⟩ := hW
  have hA : DataW.TrodAll enc Try.prog W 0 (fun _ => true) true Try.f6.params.toList args.toList ds p := hA0
  rw [Try.params6] at hA hval
  obtain ⟨v0, vs0, d0, ds0, p0, q0, hargs, rfl, rfl, h0, r0⟩ := trodAll_cons hA
  obtain ⟨v1, vs1, d1, ds1, p1, q1, rfl, rfl, rfl, h1, r1⟩ := trodAll_cons r0
  obtain ⟨rfl, rfl, rfl⟩ := trodAll_nil r1
  obtain rfl : args = #[v0, v1] := by cases args; simp_all
  obtain ⟨rfl, rfl⟩ := trodVars_none hV
  obtain ⟨a0, len0, cap0, rfl⟩ := okWide_slice Try.underlying22 (hval 0 22 v0 rfl rfl)
  have k0 := h0
  have lt0 : ∀ x ∈ p0, x.block < W.heap.size := by obtain ⟨m, hm⟩ := k0; exact DataW.trod_lt m _ _ _ hm
  obtain ⟨ops0, hl0, w0⟩ := open_ops rfl h0
  subst hl0
  obtain ⟨a1, rfl, rfl, rfl, w1⟩ := open_int Try.underlying3 (hval 1 3 v1 rfl rfl) h1
  clear hA0 hval0
  refine (walk a0 cap0 ops0 a1 W w0 w1).mono fun e W' ⟨he, bel⟩ => ?_
  subst he
  exact ⟨_, rfl, _, _, _, [], _, [], hW', trodAll_mk1 (shut_bool Try.underlying4 _), (trodAll_cons_mk (Below.trod laidOut (by kernel_rfl) (of_decide_eq_true (by kernel_rfl)) k0 bel lt0) (trodAll_cons_mk (shut_int Try.underlying3 w1) trodAll_mk0)), rfl, bel.frame _, fun h => by cases h⟩

theorem over : Rows.memoryStopsRow.holds Try.pinned (OpenSpec.ofChange Rows.memoryStopsSpec) :=
  OpenClaim.holds_of_wide 6 Try.f6 rfl rfl rfl rfl rfl rfl rfl ⟨rfl, rfl, rfl, rfl, rfl⟩ rfl rfl rfl rfl rfl (by kernel_rfl) Try.func6 (by kernel_rfl)
    (of_decide_eq_true (by kernel_rfl)) (by unfold Func.isWrapper; first | (rw [if_pos (by decide +kernel)]; kernel_rfl) | (rw [if_neg (by decide +kernel)]; exact ⟨rfl, rfl⟩))
    (fun os started H enc _ => lifted os started H enc)

theorem proved : Rows.MemoryStopsSaid := over
#print axioms proved
end Go.Proofs.Ytoabgkkfhoiagaa.memoryStops
