/- MemoryKeeps: for every script, a crash that keeps all leaves what was read, and so does one that keeps none where all loose words were evicted ahead: the law returns true, and leaves its argument as it was. No condition. -/
import Derived.Test.YtoabgkkfhoiagaaRows
import Derived.Test.YtoabgkkfhoiagaaFacts
import Derived.WalkKit
import Derived.ProofKit
import Derived.OpenShut
import Derived.ShutString
import Derived.ChangeOld
import Derived.Below
namespace Go.Proofs.Ytoabgkkfhoiagaa.memoryKeeps
open Go.ChangeShapes Go.WideShapes Go.ChangeAt Go.RowKit
set_option linter.unusedVariables false

theorem own : ownKnob Try.prog.godebug = none := by kernel_rfl
theorem laidOut : laidOutB Try.prog = true := by kernel_rfl

theorem keep_one (w : World) (S : List Nat) (hS : ∀ k ∈ S, k < w.heap.size) : KeepIs (w.alloc (.cells #[.bool true] 4)) S (.slice (some ⟨w.heap.size, 0, none⟩) 1 1) [true] := by
  refine ⟨_, 1, rfl, .inr ⟨w.heap.size, 0, rfl, fun hm => absurd (hS _ hm) (Nat.lt_irrefl _), fun i hi => ?_⟩⟩
  have : i = 0 := by simp at hi; exact hi
  subst this
  unfold World.cell?
  rw [heap_alloc_new w]
  rfl

set_option maxHeartbeats 4000000 in
set_option maxRecDepth 100000 in
theorem walk (a : Option Addr) (cap : Nat) (ops : List Step) (w : World) (h : OpsAt w a cap ops) :
    Calls Try.prog 8 #[.slice a ops.length cap] w fun e w' => e = .returned (.bool true) ∧ Below w.heap.size w w' := by
  have hO := h.early
  have hlen : (ops.take 200).length ≤ 200 := by simp; omega
  go_enter Try.func8, Try.ntmps8
  go_wp2_with fail
  refine (lives_any _).mono ?_
  rintro e w1 ⟨rfl, b1⟩
  go_wp2_with fail
  refine (early_any w _ a cap ops h).mono ?_
  rintro e w2 ⟨rfl, hw⟩
  obtain rfl := hw.symm
  clear h
  generalize ops.take 200 = sc at *
  go_wp2_with fail
  refine (new_any 30 30 _ (by decide)).mono ?_
  rintro e w2 ⟨La, rfl, hA0, hLa, b2⟩
  have b2' := b1.trans (b2.mono b1.size)
  have hLa' : ∀ j ∈ La.blocks, w.heap.size ≤ j := fun j hj => Nat.le_trans b1.size (hLa j hj)
  go_wp2_with fail
  refine (new_any 30 30 _ (by decide)).mono ?_
  rintro e w3 ⟨Lb, rfl, hB0, hLb, b3⟩
  have b3' := b2'.trans (b3.mono b2'.size)
  have hLb' : ∀ j ∈ Lb.blocks, w.heap.size ≤ j := fun j hj => Nat.le_trans b2'.size (hLb j hj)
  have hA1 := hA0.below b3 hA0.all_lt
  have hAlt := hA0.all_lt
  have dAB : ∀ k ∈ La.blocks, k ∉ Lb.blocks := fun k h1 h2 => by have := hAlt k h1; have := hLb k h2; omega
  have dBA : ∀ k ∈ Lb.blocks, k ∉ La.blocks := fun k h1 h2 => dAB k h2 h1
  clear hA0 hAlt
  go_wp2
  go_loopw [5] (fun i wr => ∃ (k : Nat) (M : Mem), k ≤ sc.length ∧ i = .int .i64 k ∧ MemIs wr La M ∧ MemIs wr Lb M ∧ M.sure.length = 30 ∧ M.calls ≤ k ∧ Below w.heap.size w wr) (fun i _ => sc.length - (intOf i).toNat)
  case atStart => exact ⟨0, _, Nat.zero_le _, rfl, hA1, hB0, rfl, Nat.le_refl _, b3'⟩
  case round =>
    clear hA1 hB0
    obtain ⟨k, M, hk, rfl, hA, hB, hsl, hmc, hb⟩ := hrel
    have HSL : Hid (M.sure.length = 30) := hsl
    clear hsl
    have hc9 : M.calls < 1000000000 := by omega
    by_cases hlt : k < sc.length
    · obtain ⟨b, off, kv, rfl, hka, ho, cell⟩ := hO.at k hlt
      generalize sc.getD k noStep = o at *
      have CELL : Hid _ := cell
      clear cell hO
      have hki : (k : Int) < (sc.length : Int) := by omega
      obtain ⟨t0, t1, t2, t3⟩ := CELL.out wr hb
      go_wp2_with fail
      refine (kind_any o kv _).mono ?_
      rintro e w4 ⟨rfl, b4⟩
      clear t0 t1 t2 t3
      have bb4 := hb.trans (b4.mono hb.size)
      have A4 := hA.below b4 hA.all_lt
      have B4 := hB.below b4 hB.all_lt
      obtain ⟨t0, t1, t2, t3⟩ := CELL.out w4 bb4
      by_cases hk4 : o.k < 4
      · obtain ⟨d1, d2, _, _⟩ := done_keeps M o (by omega)
        have HD2 : Hid ((M.done o).sure.length = M.sure.length) := d2
        clear d2
        go_wp2_with fail
        refine (does_any La M o kv _ A4 hc9 ho (hka.is bb4 hLa')).mono ?_
        rintro e w5 ⟨rfl, A5, o5⟩
        clear t0 t1 t2 t3
        have bb5 := below_only bb4 o5 bb4.size hLa'
        have B5 := B4.kept o5 dBA
        obtain ⟨t0, t1, t2, t3⟩ := CELL.out w5 bb5
        go_wp2_with fail
        refine (does_any Lb M o kv _ B5 hc9 ho (hka.is bb5 hLb')).mono ?_
        rintro e w6 ⟨rfl, B6, o6⟩
        clear t0 t1 t2 t3
        have bb6 := below_only bb5 o6 bb5.size hLb'
        have A6 := A5.kept o6 dAB
        go_wp2
        go_roundw
        case rel => exact ⟨k + 1, M.done o, by omega, by go_num, A6, B6, HD2.out.trans HSL.out, by omega, bb6⟩
        case measure => simp [intOf]; omega
      · clear t0 t1 t2 t3
        go_wp2
        go_roundw
        case rel => exact ⟨k + 1, M, by omega, by go_num, A4, B4, HSL.out, by omega, bb4⟩
        case measure => simp [intOf]; omega
    · obtain rfl : k = sc.length := by omega
      clear hO
      have hsl30 : M.sure.length ≤ 30 := Nat.le_of_eq HSL.out
      have hkl := keys_len M
      have hin := hA.looseIn
      have him : M.image.length = M.sure.length := by simp [Mem.image]
      have HIM : Hid (M.image.length = M.sure.length) := him
      clear him
      go_wp2_with fail
      refine (image_any La M _ hA).mono ?_
      rintro e w4 ⟨rfl, row4, b4⟩
      have bb4 := hb.trans (b4.mono hb.size)
      have A4 := hA.below b4 hA.all_lt
      have B4 := hB.below b4 hB.all_lt
      have wasA : wr.heap.size ∉ La.blocks := fun hm => absurd (hA.all_lt _ hm) (Nat.lt_irrefl _)
      have wasB : wr.heap.size ∉ Lb.blocks := fun hm => absurd (hB.all_lt _ hm) (Nat.lt_irrefl _)
      have r4 : RowIs .u64 w4 (some ⟨wr.heap.size, 0, none⟩) M.image := rowIs_of_owns row4
      clear row4
      go_wp2_with fail
      refine (loose_any Lb M _ B4 hc9).mono ?_
      rintro e w5 ⟨v, rfl, row5, hnil, b5⟩
      obtain ⟨va, vc, rfl, hva⟩ := ownsRow_form0 row5
      have bb5 := bb4.trans (b5.mono bb4.size)
      have A5 := A4.below b5 A4.all_lt
      have B5 := B4.below b5 B4.all_lt
      have r5 := r4.below b5
      have q5 : RowIs .i64 w5 va M.keys := rowIs_of_owns row5
      have hvB : M.keys.length = 0 ∨ ∃ g, va = some ⟨g, 0, none⟩ ∧ g ∉ Lb.blocks := by
        rcases hva with h0 | ⟨g, e, hg⟩
        · exact .inl h0
        · exact .inr ⟨g, e, fun hm => by have := B4.all_lt _ hm; omega⟩
      clear row5 hnil hva b5 b4 A4 B4 r4 hA hB hb
      go_wp2
      generalize wr.heap.size = rb at *
      go_loopw [8] (fun i wr2 => ∃ t : Nat, t ≤ M.keys.length ∧ i = .int .i64 t ∧ MemIs wr2 Lb (evicted M (M.keys.take t)) ∧ MemIs wr2 La M ∧ RowIs .u64 wr2 (some ⟨rb, 0, none⟩) M.image ∧ RowIs .i64 wr2 va M.keys ∧ Below w.heap.size w wr2) (fun i _ => M.keys.length - (intOf i).toNat)
      case atStart => exact ⟨0, Nat.zero_le _, rfl, B5, A5, r5, q5, bb5⟩
      case round =>
        clear A5 B5 r5 q5 bb5
        obtain ⟨t, ht, rfl, hB, hA, hr, hq, hb⟩ := hrel
        by_cases hlt2 : t < M.keys.length
        · have hq' := hq
          rcases hq' with h0 | ⟨qb, qo, rfl, hqc⟩
          · rw [h0] at hlt2; exact absurd hlt2 (Nat.not_lt_zero _)
          have hcell := hqc t hlt2
          have hmem : M.keys.getD t 0 ∈ M.keys := by simp [hlt2]
          obtain ⟨v, hv⟩ := Option.isSome_iff_exists.1 ((mem_keys M hin _).1 hmem)
          have hrg := hin _ v hv
          have htake : M.keys.take (t + 1) = M.keys.take t ++ [M.keys.getD t 0] := by
            rw [List.take_succ_eq_append_getElem hlt2]; simp [hlt2]
          have HT : Hid _ := htake
          clear htake hv hmem
          generalize M.keys.getD t 0 = x at *
          have hwx : (Lit.int .i64 x).wf = true := WalkArith.wf_i64 (by omega)
          have hti : (t : Int) < (M.keys.length : Int) := by omega
          clear hqc
          go_wp2_with fail
          refine (evict_any Lb _ x _ hB hwx).mono ?_
          rintro e w6 ⟨rfl, B6, o6⟩
          have bb6 := below_only hb o6 hb.size hLb'
          have A6 := hA.kept o6 dAB
          have r6 := hr.only2 o6 (.inr ⟨_, rfl, wasB⟩)
          have q6 := hq.only2 o6 hvB
          go_wp2
          go_roundw
          case rel => exact ⟨t + 1, by omega, by go_num, by rw [HT.out, evicted_snoc]; exact B6, A6, r6, q6, bb6⟩
          case measure => simp [intOf]; omega
        · obtain rfl : t = M.keys.length := by omega
          rw [List.take_length] at hB
          have hl0 : ∀ j, (evicted M M.keys).loose j = none := fun j => by
            rw [evicted_loose]
            by_cases e : j ∈ M.keys
            · rw [if_pos e]
            · rw [if_neg e]
              cases hv : M.loose j with
              | none => rfl
              | some v => exact absurd ((mem_keys M hin j).2 (by rw [hv]; rfl)) e
          have hk0 : (evicted M M.keys).keys = [] := keys_none _ hl0
          have hI1 : (M.crash [true]).image = M.image := crash_all M hin
          have hI2 : ((evicted M M.keys).crash []).image = M.image := by
            rw [crash_image, crashTo_nil, ← image_none _ hl0, evicted_image M hin]
          have hec : (evicted M M.keys).calls < 1000000000 := by rw [evicted_calls]; exact hc9
          have HI : Hid ((M.crash [true]).image = M.image ∧ ((evicted M M.keys).crash []).image = M.image) := ⟨hI1, hI2⟩
          have HK : Hid ((evicted M M.keys).keys = []) := hk0
          clear hl0 hI1 hI2 hk0 hq hvB
          generalize evicted M M.keys = Mb at *
          go_wp2_with fail
          refine (crash_any La M _ [true] _ (hA.alloc _) hc9 (keep_one wr La.blocks hA.all_lt) (by decide)).mono ?_
          rintro e w7 ⟨rfl, A7, o7⟩
          have b7 := below_only (hb.alloc hb.size _) o7 (by have := hb.size; simp; omega) hLa'
          have B7 := (hB.alloc (.cells #[.bool true] 4)).kept o7 dBA
          have r7 := (hr.below ((Below.refl _ _).alloc (Nat.le_refl _) (.cells #[.bool true] 4))).only2 o7 (.inr ⟨_, rfl, wasA⟩)
          clear hA hB hr hb
          go_wp2_with fail
          refine (loose_any Lb Mb _ B7 hec).mono ?_
          rintro e w8 ⟨v8, rfl, row8, _, b8⟩
          obtain ⟨va8, vc8, rfl, _⟩ := ownsRow_form0 row8
          have bb8 := b7.trans (b8.mono b7.size)
          have A8 := A7.below b8 A7.all_lt
          have B8 := B7.below b8 B7.all_lt
          have r8 := r7.below b8
          rw [HK.out]
          clear row8 b8 A7 B7 r7
          go_wp2_with fail
          refine (crash_any Lb Mb _ [] _ B8 hec (keepIs_nil _ _) (by decide)).mono ?_
          rintro e w9 ⟨rfl, B9, o9⟩
          have bb9 := below_only bb8 o9 bb8.size hLb'
          have A9 := A8.kept o9 dAB
          have r9 := r8.only2 o9 (.inr ⟨_, rfl, wasB⟩)
          clear A8 B8 r8
          go_wp2_with fail
          refine (image_any La (M.crash [true]) _ A9).mono ?_
          rintro e w10 ⟨rfl, row10, b10⟩
          have bb10 := bb9.trans (b10.mono bb9.size)
          have B10 := B9.below b10 B9.all_lt
          have r10 := r9.below b10
          have i10 := rowIs_of_owns row10
          have l1 : (M.crash [true]).image.length = (M.crash [true]).sure.length := by simp [Mem.image]
          have hsame := same_any w10 (some ⟨w9.heap.size, 0, none⟩) (some ⟨rb, 0, none⟩) (M.crash [true]).sure.length M.sure.length (M.crash [true]).image M.image i10 r10 (by rw [HI.out.1, HIM.out]; omega)
          rw [l1, HIM.out, HI.out.1, decide_eq_true rfl] at hsame
          have HS : Hid _ := hsame
          clear hsame l1 i10 row10
          go_wp2_with fail
          refine Calls.mono (Hid.out HS) ?_
          rintro e w11 ⟨rfl, b11⟩
          clear HS
          have bb11 := bb10.trans (b11 _)
          have B11 := B10.below (b11 w10.heap.size) B10.all_lt
          have r11 := r10.same b11
          go_wp2_with fail
          refine (image_any Lb (Mb.crash []) _ B11).mono ?_
          rintro e w12 ⟨rfl, row12, b12⟩
          have bb12 := bb11.trans (b12.mono bb11.size)
          have r12 := r11.below b12
          have i12 := rowIs_of_owns row12
          have l2 : (Mb.crash []).image.length = (Mb.crash []).sure.length := by simp [Mem.image]
          have hsame := same_any w12 (some ⟨w11.heap.size, 0, none⟩) (some ⟨rb, 0, none⟩) (Mb.crash []).sure.length M.sure.length (Mb.crash []).image M.image i12 r12 (by rw [HI.out.2, HIM.out]; omega)
          rw [l2, HIM.out, HI.out.2, decide_eq_true rfl] at hsame
          have HS : Hid _ := hsame
          clear hsame l2 i12 row12
          go_wp2_with fail
          refine Calls.mono (Hid.out HS) ?_
          rintro e w13 ⟨rfl, b13⟩
          go_wp2
          go_ret
          exact ⟨rfl, bb12.trans (b13 _)⟩

set_option maxRecDepth 100000 in
theorem lifted (os : Os) (started : os.Started) (H : Type) (enc : TypeId × Value → H) :
    ReturnsInHanded {} Try.checked os 8 .any (Rows.memoryKeepsSpec.pre6 enc Try.prog Try.f8 Rows.memoryKeepsRow.domain false) (Rows.memoryKeepsSpec.post enc Try.prog Try.f8 false true false false) := by
  refine returnsInHanded_of_change (C := Try.checked) own started (by kernel_rfl) Try.func8
    (ChangeSpec.witness6 (enc := enc) (C := Try.checked) false ⟨#[], #[.slice none 0 0], []⟩ 8 (by kernel_rfl) (by kernel_rfl) (by kernel_rfl) (by kernel_rfl)) ?_
  intro W base args ds gs before hval0 hW hcnd _
  have hval : ∀ (j : Nat) t v, Try.f8.params[j]? = some t → args[j]? = some v → Value.okWide Try.prog W .any base t v := hval0
  have hW' := hW
  obtain ⟨p, q, hA0, hV, rfl, hfz, hnd⟩ := hW
  have hA : DataW.TrodAll enc Try.prog W 0 (fun _ => true) true Try.f8.params.toList args.toList ds p := hA0
  rw [Try.params8] at hA hval
  obtain ⟨v0, vs0, d0, ds0, p0, q0, hargs, rfl, rfl, h0, r0⟩ := trodAll_cons hA
  obtain ⟨rfl, rfl, rfl⟩ := trodAll_nil r0
  obtain rfl : args = #[v0] := by cases args; simp_all
  obtain ⟨rfl, rfl⟩ := trodVars_none hV
  obtain ⟨a0, len0, cap0, rfl⟩ := okWide_slice Try.underlying22 (hval 0 22 v0 rfl rfl)
  have k0 := h0
  have lt0 : ∀ x ∈ p0, x.block < W.heap.size := by obtain ⟨m, hm⟩ := k0; exact DataW.trod_lt m _ _ _ hm
  obtain ⟨ops0, hl0, w0⟩ := open_ops rfl h0
  subst hl0
  clear hA0 hval0
  refine (walk a0 cap0 ops0 W w0).mono fun e W' ⟨he, bel⟩ => ?_
  subst he
  exact ⟨_, rfl, _, _, _, [], _, [], hW', trodAll_mk1 (shut_bool Try.underlying4 _), (trodAll_cons_mk (Below.trod laidOut (by kernel_rfl) (of_decide_eq_true (by kernel_rfl)) k0 bel lt0) trodAll_mk0), rfl, bel.frame _, fun h => by cases h⟩

theorem over : Rows.memoryKeepsRow.holds Try.pinned (OpenSpec.ofChange Rows.memoryKeepsSpec) :=
  OpenClaim.holds_of_wide 8 Try.f8 rfl rfl rfl rfl rfl rfl rfl ⟨rfl, rfl, rfl, rfl, rfl⟩ rfl rfl rfl rfl rfl (by kernel_rfl) Try.func8 (by kernel_rfl)
    (of_decide_eq_true (by kernel_rfl)) (by unfold Func.isWrapper; first | (rw [if_pos (by decide +kernel)]; kernel_rfl) | (rw [if_neg (by decide +kernel)]; exact ⟨rfl, rfl⟩))
    (fun os started H enc _ => lifted os started H enc)

theorem proved : Rows.MemoryKeepsSaid := over
#print axioms proved
end Go.Proofs.Ytoabgkkfhoiagaa.memoryKeeps
