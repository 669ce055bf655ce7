/- MemoryPlays: for every script and every size, what the calls answer, what the words are and which are loose is what the document says, in whatever row, crashes among it: the law returns true, and leaves its arguments as they were. No condition. -/
import Derived.Test.YtoabgkkfhoiagaaRows
import Derived.Test.YtoabgkkfhoiagaaRef8
import Derived.WalkKit
import Derived.ProofKit
import Derived.OpenShut
import Derived.ShutString
import Derived.ChangeOld
import Derived.Below
namespace Go.Proofs.Ytoabgkkfhoiagaa.memoryPlays
open Go.ChangeShapes Go.WideShapes Go.ChangeAt Go.RowKit
set_option linter.unusedVariables false

theorem own : ownKnob Try.prog.godebug = none := by kernel_rfl
theorem laidOut : laidOutB Try.prog = true := by kernel_rfl

/-- Both memories are M. -/
structure Two (w : World) (La : Lay) (Lr : RLay) (M : Mem) (W : World) : Prop where
  a : MemIs W La M
  r : RefIs W Lr M
  bel : Below w.heap.size w W

theorem Two.below {w : World} {La : Lay} {Lr : RLay} {M : Mem} {W W' : World} (h : Two w La Lr M W) (hb : Below W.heap.size W W') : Two w La Lr M W' :=
  ⟨h.a.below hb h.a.all_lt, h.r.below hb h.r.all_lt, h.bel.trans (hb.mono h.bel.size)⟩

theorem sameN (w : World) (a b : Option Addr) (ca cb k : Nat) (xs : List Int) (hx : RowIs .u64 w a xs) (hy : RowIs .u64 w b xs) (h1 : xs.length = k) (hk : k ≤ 9223372036854775807) :
    Calls Try.prog 20 #[.slice a k ca, .slice b k cb] w fun e w' => e = .returned (.bool true) ∧ ∀ B, Below B w w' := by
  have := same_any w a b ca cb xs xs hx hy (by omega)
  rw [h1, decide_eq_true rfl] at this
  exact this
theorem sameNI (w : World) (a b : Option Addr) (ca cb : Nat) (xs : List Int) (hx : RowIs .i64 w a xs) (hy : RowIs .i64 w b xs) (hk : xs.length ≤ 9223372036854775807) :
    Calls Try.prog 17 #[.slice a xs.length ca, .slice b xs.length cb] w fun e w' => e = .returned (.bool true) ∧ ∀ B, Below B w w' := by
  have := sameInts_any w a b ca cb xs xs hx hy hk
  rw [decide_eq_true rfl] at this
  exact this

theorem done_calls (M : Mem) (o : Step) : (M.done o).calls ≤ M.calls + 1 ∧ (M.done o).sure.length = M.sure.length := by
  rcases o.k_cases with hk | hk | hk | hk | hk | hk
  · rw [(step0 M o hk).2]; unfold Mem.store; split <;> simp [Mem.counted]
  · rw [(step1 M o hk).2]; unfold Mem.flush; split <;> simp [Mem.counted]
  · rw [(step2 M o hk).2]; unfold Mem.fence; split <;> simp [Mem.counted, fenceTo, sureTo]
  · rw [(step3 M o hk).2]; unfold Mem.evict; split <;> simp
  · rw [(step4 M o hk).2]; unfold Mem.stop; split <;> simp
  · rw [(step5 M o hk).2]; exact ⟨by show M.calls ≤ M.calls + 1; omega, crashTo_len M _ _⟩

theorem ref_c1 {w : World} {L : RLay} {M : Mem} (h : RefIs w L M) : w.cell? ⟨L.rb, 1, none⟩ = some (.int .i64 M.calls) := let ⟨_, h1, _⟩ := h; h1.c1

set_option maxHeartbeats 16000000 in
set_option maxRecDepth 100000 in
theorem walk (n : Int) (a : Option Addr) (cap : Nat) (ops : List Step) (w : World) (hn : (Lit.int .i64 n).wf = true) (h : OpsAt w a cap ops) :
    Calls Try.prog 3 #[.int .i64 n, .slice a ops.length cap] w fun e w' => e = .returned (.bool true) ∧ Below w.heap.size w w' := by
  obtain ⟨nn, hN, hn40⟩ : ∃ nn : Nat, wrap64 ((IntKind.u64.wrap n).tmod 40) = (nn : Int) ∧ nn < 40 := by
    have h0 : 0 ≤ IntKind.u64.wrap n := by simp only [IntKind.wrap_u64]; omega
    have h1 : (IntKind.u64.wrap n).tmod 40 = (IntKind.u64.wrap n) % 40 := Int.tmod_eq_emod_of_nonneg h0
    refine ⟨((IntKind.u64.wrap n) % 40).toNat, ?_, by omega⟩
    rw [h1]; unfold wrap64; omega
  have hO := h.early
  have hlen : (ops.take 200).length ≤ 200 := by simp; omega
  go_enter Try.func3, Try.ntmps3
  go_wp2_with fail
  refine (lives_any _).mono ?_
  rintro e w1 ⟨rfl, b1⟩
  go_wp2_with fail
  refine (early_any w _ a cap ops h).mono ?_
  rintro e w2 ⟨rfl, hw⟩
  obtain rfl := hw.symm
  clear h
  generalize ops.take 200 = sc at *
  go_wp2_with fail
  refine (new_any nn nn _ (by omega)).mono ?_
  rintro e w2 ⟨La, rfl, hA0, hLa, b2⟩
  have b2' := b1.trans (b2.mono b1.size)
  have hLa' : ∀ j ∈ La.blocks, w.heap.size ≤ j := fun j hj => Nat.le_trans b1.size (hLa j hj)
  go_wp2_with fail
  refine (new_ref nn nn _ (by omega)).mono ?_
  rintro e w3 ⟨Lr, rfl, hR0, hLr, b3⟩
  have b3' := b2'.trans (b3.mono b2'.size)
  have hLr' : ∀ j ∈ Lr.blocks, w.heap.size ≤ j := fun j hj => Nat.le_trans b2'.size (hLr j hj)
  have hA1 := hA0.below b3 hA0.all_lt
  have hAlt := hA0.all_lt
  have dAR : ∀ k ∈ La.blocks, k ∉ Lr.blocks := fun k h1 h2 => by have := hAlt k h1; have := hLr k h2; omega
  have dRA : ∀ k ∈ Lr.blocks, k ∉ La.blocks := fun k h1 h2 => dAR k h2 h1
  have hf : (fresh (List.replicate nn 0)).sure.length = nn := by simp [fresh]
  have T0 : Two w La Lr (fresh (List.replicate nn 0)) w3 := ⟨hA1, hR0, b3'⟩
  clear hA0 hAlt hA1 hR0 b1 b2 b3 b2' b3' hLa hLr
  go_wp2
  clear hN hn
  go_loopw [7] (fun i wr => ∃ (k : Nat) (M : Mem), k ≤ sc.length ∧ i = .int .i64 k ∧ Two w La Lr M wr ∧ M.sure.length = nn ∧ M.calls ≤ k) (fun i _ => sc.length - (intOf i).toNat)
  case atStart => exact ⟨0, _, Nat.zero_le _, rfl, T0, hf, Nat.le_refl _⟩
  case round =>
    clear T0 hf
    obtain ⟨k, M, hk, rfl, T, hsl, hmc⟩ := hrel
    have HSL : Hid (M.sure.length = nn) := hsl
    clear hsl
    have hc9 : M.calls < 1000000000 := by omega
    by_cases hlt : k < sc.length
    · obtain ⟨b, off, kv, rfl, hka, ho, cell⟩ := hO.at k hlt
      generalize sc.getD k noStep = o at *
      have CELL : Hid _ := cell
      clear cell hO
      have hki : (k : Int) < (sc.length : Int) := by omega
      obtain ⟨t0, t1, t2, t3⟩ := CELL.out wr T.bel
      obtain ⟨d1, d2⟩ := done_calls M o
      have HMC : Hid (M.calls ≤ k) := hmc
      have HD : Hid ((M.done o).calls ≤ M.calls + 1 ∧ (M.done o).sure.length = nn ∧ (M.done o).image.length = (M.done o).sure.length ∧ (M.done o).keys.length ≤ 100 ∧ (M.done o).sure.length ≤ 100) := by
        have h1 := d2.trans HSL.out
        have h2 := keys_len (M.done o)
        exact ⟨d1, h1, by simp [Mem.image], by omega, by omega⟩
      have hc10 : (M.done o).calls < 1000000000 := by omega
      have dA := does_any La M o kv
      have dR := does_ref Lr M o kv
      have DA : Hid _ := dA
      have DR : Hid _ := dR
      clear dA dR d1 d2 HSL hmc hk
      generalize M.done o = N at *
      generalize M.does o = ee at *
      go_wp2
      go_region_with (first
        | (go_at_call 14; refine Calls.mono (Hid.out DA _ ?_ hc9 ho ?_) ?_; exact T.a.drew; exact hka.is T.bel.drew hLa'; rintro e w4 ⟨rfl, A4, o4⟩; have bb4 := below_only T.bel.drew o4 T.bel.size hLa'; have R4 := T.r.drew.kept o4 dRA; obtain ⟨q0, q1, q2, q3⟩ := CELL.out w4 bb4)
        | (go_at_call 15; refine Calls.mono (Hid.out DR _ ?_ hc9 ho ?_) ?_; exact R4; exact hka.is bb4 hLr'; rintro e w5 ⟨rfl, R5, o5⟩; have T5 : Two w La Lr N w5 := ⟨A4.kept o5 dAR, R5, below_only bb4 o5 bb4.size hLr'⟩; have cc := ref_c1 R5; clear q0 q1 q2 q3)
        | (go_at_call 16; refine (calls_any La N _ T5.a).mono ?_; rintro e w6 ⟨rfl, hw6⟩; obtain rfl := hw6.symm)
        | (go_at_call 18; refine (loose_any La N _ T5.a hc10).mono ?_; rintro e w6 ⟨v6, rfl, row6, _, b6⟩; obtain ⟨va6, vc6, rfl, _⟩ := ownsRow_form0 row6; have T6 := T5.below b6; have i6 := rowIs_of_owns row6; clear row6)
        | (go_at_call 19; refine (loose_ref Lr N _ T6.r).mono ?_; rintro e w7 ⟨v7, rfl, row7, b7⟩; obtain ⟨va7, vc7, rfl, _⟩ := ownsRow_form0 row7; have T7 := T6.below b7; have i7 := rowIs_of_owns row7; have i6' := i6.below b7; clear row7)
        | (go_at_call 17; refine Calls.mono (sameNI _ _ _ _ _ N.keys i6' i7 ?_) ?_; (have := HD.out.2.2.2.1; omega); rintro e w8 ⟨rfl, b8⟩; have T8 := T7.below (b8 _))
        | (go_at_call 21; refine (image_any La N _ T8.a).mono ?_; rintro e w9 ⟨rfl, row9, b9⟩; have T9 := T8.below b9; have i9 := rowIs_of_owns row9; clear row9)
        | (go_at_call 22; refine (image_ref Lr N _ T9.r).mono ?_; rintro e w10 ⟨v10, rfl, row10, b10⟩; obtain ⟨va10, vc10, rfl, _⟩ := ownsRow_form0 row10; have T10 := T9.below b10; have i10 := rowIs_of_owns row10; have i9' := i9.below b10; clear row10)
        | (go_at_call 20; refine Calls.mono (sameN _ _ _ _ _ N.sure.length N.image i9' i10 HD.out.2.2.1 ?_) ?_; (have := HD.out.2.2.2.2; omega); rintro e w11 ⟨rfl, b11⟩; have T11 := T10.below (b11 _)))
      all_goals
        go_wp2
        go_roundw
        case rel => exact ⟨k + 1, N, by omega, by go_num, T11, HD.out.2.1, by have := HD.out.1; have := HMC.out; omega⟩
        case measure => simp [intOf]; omega
    · obtain rfl : k = sc.length := by omega
      clear hO
      have hsz := size_any La M wr T.a
      rw [HSL.out] at hsz
      have HZ : Hid _ := hsz
      clear hsz
      go_wp2_with fail
      refine Calls.mono (Hid.out HZ) ?_
      rintro e w4 ⟨rfl, hw⟩
      obtain rfl := hw.symm
      go_wp2
      go_ret
      exact ⟨rfl, T.bel⟩

set_option maxRecDepth 100000 in
theorem lifted (os : Os) (started : os.Started) (H : Type) (enc : TypeId × Value → H) :
    ReturnsInHanded {} Try.checked os 3 .any (Rows.memoryPlaysSpec.pre6 enc Try.prog Try.f3 Rows.memoryPlaysRow.domain false) (Rows.memoryPlaysSpec.post enc Try.prog Try.f3 false true false false) := by
  refine returnsInHanded_of_change (C := Try.checked) own started (by kernel_rfl) Try.func3
    (ChangeSpec.witness6 (enc := enc) (C := Try.checked) false ⟨#[], #[.int .i64 0, .slice none 0 0], []⟩ 8 (by kernel_rfl) (by kernel_rfl) (by kernel_rfl) (by kernel_rfl)) ?_
  intro W base args ds gs before hval0 hW hcnd _
  have hval : ∀ (j : Nat) t v, Try.f3.params[j]? = some t → args[j]? = some v → Value.okWide Try.prog W .any base t v := hval0
  have hW' := hW
  obtain ⟨p, q, hA0, hV, rfl, hfz, hnd⟩ := hW
  have hA : DataW.TrodAll enc Try.prog W 0 (fun _ => true) true Try.f3.params.toList args.toList ds p := hA0
  rw [Try.params3] at hA hval
  obtain ⟨v0, vs0, d0, ds0, p0, q0, hargs, rfl, rfl, h0, r0⟩ := trodAll_cons hA
  obtain ⟨v1, vs1, d1, ds1, p1, q1, rfl, rfl, rfl, h1, r1⟩ := trodAll_cons r0
  obtain ⟨rfl, rfl, rfl⟩ := trodAll_nil r1
  obtain rfl : args = #[v0, v1] := by cases args; simp_all
  obtain ⟨rfl, rfl⟩ := trodVars_none hV
  obtain ⟨a0, rfl, rfl, rfl, w0⟩ := open_int Try.underlying3 (hval 0 3 v0 rfl rfl) h0
  obtain ⟨a1, len1, cap1, rfl⟩ := okWide_slice Try.underlying22 (hval 1 22 v1 rfl rfl)
  have k1 := h1
  have lt1 : ∀ x ∈ p1, x.block < W.heap.size := by obtain ⟨m, hm⟩ := k1; exact DataW.trod_lt m _ _ _ hm
  obtain ⟨ops1, hl1, w1⟩ := open_ops rfl h1
  subst hl1
  clear hA0 hval0
  refine (walk a0 a1 cap1 ops1 W w0 w1).mono fun e W' ⟨he, bel⟩ => ?_
  subst he
  exact ⟨_, rfl, _, _, _, [], _, [], hW', trodAll_mk1 (shut_bool Try.underlying4 _), (trodAll_cons_mk (shut_int Try.underlying3 w0) (trodAll_cons_mk (Below.trod laidOut (by kernel_rfl) (of_decide_eq_true (by kernel_rfl)) k1 bel lt1) trodAll_mk0)), rfl, bel.frame _, fun h => by cases h⟩

theorem over : Rows.memoryPlaysRow.holds Try.pinned (OpenSpec.ofChange Rows.memoryPlaysSpec) :=
  OpenClaim.holds_of_wide 3 Try.f3 rfl rfl rfl rfl rfl rfl rfl ⟨rfl, rfl, rfl, rfl, rfl⟩ rfl rfl rfl rfl rfl (by kernel_rfl) Try.func3 (by kernel_rfl)
    (of_decide_eq_true (by kernel_rfl)) (by unfold Func.isWrapper; first | (rw [if_pos (by decide +kernel)]; kernel_rfl) | (rw [if_neg (by decide +kernel)]; exact ⟨rfl, rfl⟩))
    (fun os started H enc _ => lifted os started H enc)

theorem proved : Rows.MemoryPlaysSaid := over
#print axioms proved
end Go.Proofs.Ytoabgkkfhoiagaa.memoryPlays
