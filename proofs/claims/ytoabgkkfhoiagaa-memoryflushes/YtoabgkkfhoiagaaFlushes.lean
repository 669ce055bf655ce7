/- MemoryFlushes: for every script of stores, where all lines are flushed and fenced no word is loose and a crash that keeps none changes nothing, and a flush without a fence makes nothing sure: the law returns true, and leaves its argument as it was. No condition. -/
import Derived.Test.YtoabgkkfhoiagaaRows
import Derived.Test.YtoabgkkfhoiagaaFacts2
import Derived.Deep.OwnRows
import Derived.WalkKit
import Derived.ProofKit
import Derived.OpenShut
import Derived.ShutString
import Derived.ChangeOld
import Derived.Below
namespace Go.Proofs.Ytoabgkkfhoiagaa.memoryFlushes
open Go.ChangeShapes Go.WideShapes Go.ChangeAt Go.RowKit
set_option linter.unusedVariables false

theorem own : ownKnob Try.prog.godebug = none := by kernel_rfl
theorem laidOut : laidOutB Try.prog = true := by kernel_rfl

theorem same30 (w : World) (a b : Option Addr) (xs ys : List Int) (hx : RowIs .u64 w a xs) (hy : RowIs .u64 w b ys) (h1 : xs.length = 30) (h2 : xs = ys) :
    Calls Try.prog 20 #[.slice a 30 30, .slice b 30 30] w fun e w' => e = .returned (.bool true) ∧ ∀ B, Below B w w' := by
  subst h2
  have := same_any w a b 30 30 xs xs hx hy (by omega)
  rw [h1, decide_eq_true rfl] at this
  exact this

/-- Thirty words that are 0. -/
def z30 : Array Value := madeCells #[.int .u64 0] 30
theorem make30 (w : World) : (Instr.makeSlice 45 (.int .i64 30) (.int .i64 30)).run Try.prog w = .ok (.slice (some ⟨w.heap.size, 0, none⟩) 30 30) (w.alloc (.cells z30 32)) :=
  run_make_row' 45 32 (.int .u64 0) 8 Try.underlying45 Try.info32 rfl .i64 .i64 30 (by decide) (by decide) w
theorem zerosN (w : World) (n : Nat) : RowIs .u64 (w.alloc (.cells (madeCells #[.int .u64 0] n) 32)) (some ⟨w.heap.size, 0, none⟩) (List.replicate n 0) := by
  refine .inr ⟨w.heap.size, 0, rfl, fun i hi => ?_⟩
  have hi' : i < n := by simpa using hi
  unfold World.cell?
  rw [heap_alloc_new w]
  have h1 : (madeCells #[Value.int .u64 0] n).toList = List.replicate n (Value.int .u64 0) := toList_madeCells_one _ _
  have h2 : (madeCells #[Value.int .u64 0] n)[i]? = some (Value.int .u64 0) := by
    rw [← Array.getElem?_toList, h1]; simp [hi']
  simp [h2, hi']
theorem zeros (w : World) : RowIs .u64 (w.alloc (.cells z30 32)) (some ⟨w.heap.size, 0, none⟩) (List.replicate 30 0) := zerosN w 30

/-- What must stay while the last comparison is made. -/
structure St (w : World) (La Lb : Lay) (Ma Mb : Mem) (rb : Nat) (im : List Int) (W : World) : Prop where
  a : MemIs W La Ma
  b : MemIs W Lb Mb
  r : RowIs .u64 W (some ⟨rb, 0, none⟩) im
  bel : Below w.heap.size w W

theorem St.drew {w : World} {La Lb : Lay} {Ma Mb : Mem} {rb : Nat} {im : List Int} {W : World} (h : St w La Lb Ma Mb rb im W) : St w La Lb Ma Mb rb im W.drew :=
  ⟨h.a.drew, h.b.drew, h.r.same (fun B => ⟨rfl, rfl, rfl, Nat.le_refl _, fun _ _ => rfl⟩), h.bel.drew⟩
theorem St.below {w : World} {La Lb : Lay} {Ma Mb : Mem} {rb : Nat} {im : List Int} {W W' : World} (h : St w La Lb Ma Mb rb im W) (hb : Below W.heap.size W W') : St w La Lb Ma Mb rb im W' :=
  ⟨h.a.below hb h.a.all_lt, h.b.below hb h.b.all_lt, h.r.below hb, h.bel.trans (hb.mono h.bel.size)⟩

set_option maxHeartbeats 4000000 in
set_option maxRecDepth 100000 in
theorem walk (a : Option Addr) (cap : Nat) (ops : List Step) (w : World) (h : OpsAt w a cap ops) :
    Calls Try.prog 9 #[.slice a ops.length cap] w fun e w' => e = .returned (.bool true) ∧ Below w.heap.size w w' := by
  have hO := h.early
  have hlen : (ops.take 200).length ≤ 200 := by simp; omega
  go_enter Try.func9, Try.ntmps9
  go_wp2_with fail
  refine (lives_any _).mono ?_
  rintro e w1 ⟨rfl, b1⟩
  go_wp2_with fail
  refine (early_any w _ a cap ops h).mono ?_
  rintro e w2 ⟨rfl, hw⟩
  obtain rfl := hw.symm
  clear h
  generalize ops.take 200 = sc at *
  go_wp2_with fail
  refine (new_any 30 30 _ (by decide)).mono ?_
  rintro e w2 ⟨La, rfl, hA0, hLa, b2⟩
  have b2' := b1.trans (b2.mono b1.size)
  have hLa' : ∀ j ∈ La.blocks, w.heap.size ≤ j := fun j hj => Nat.le_trans b1.size (hLa j hj)
  go_wp2_with fail
  refine (new_any 30 30 _ (by decide)).mono ?_
  rintro e w3 ⟨Lb, rfl, hB0, hLb, b3⟩
  have b3' := b2'.trans (b3.mono b2'.size)
  have hLb' : ∀ j ∈ Lb.blocks, w.heap.size ≤ j := fun j hj => Nat.le_trans b2'.size (hLb j hj)
  have hA1 := hA0.below b3 hA0.all_lt
  have hAlt := hA0.all_lt
  have dAB : ∀ k ∈ La.blocks, k ∉ Lb.blocks := fun k h1 h2 => by have := hAlt k h1; have := hLb k h2; omega
  have dBA : ∀ k ∈ Lb.blocks, k ∉ La.blocks := fun k h1 h2 => dAB k h2 h1
  clear hA0 hAlt
  go_wp2
  go_loopw [5] (fun i wr => ∃ (k : Nat) (M : Mem), k ≤ sc.length ∧ i = .int .i64 k ∧ MemIs wr La M ∧ MemIs wr Lb M ∧ M.sure = List.replicate 30 0 ∧ (∀ j, M.way j = none) ∧ M.stops = false ∧ M.calls ≤ k ∧ Below w.heap.size w wr) (fun i _ => sc.length - (intOf i).toNat)
  case atStart => exact ⟨0, _, Nat.zero_le _, rfl, hA1, hB0, rfl, fun _ => rfl, rfl, Nat.le_refl _, b3'⟩
  case round =>
    clear hA1 hB0
    obtain ⟨k, M, hk, rfl, hA, hB, hsl, hway, hst, hmc, hb⟩ := hrel
    have HSL : Hid (M.sure = List.replicate 30 0 ∧ (∀ j, M.way j = none) ∧ M.stops = false) := ⟨hsl, hway, hst⟩
    clear hsl hway hst
    have hc9 : M.calls < 1000000000 := by omega
    by_cases hlt : k < sc.length
    · obtain ⟨b, off, kv, rfl, hka, ho, cell⟩ := hO.at k hlt
      generalize sc.getD k noStep = o at *
      have CELL : Hid _ := cell
      clear cell hO
      have hki : (k : Int) < (sc.length : Int) := by omega
      obtain ⟨t0, t1, t2, t3⟩ := CELL.out wr hb
      go_wp2_with fail
      refine (kind_any o kv _).mono ?_
      rintro e w4 ⟨rfl, b4⟩
      clear t0 t1 t2 t3
      have bb4 := hb.trans (b4.mono hb.size)
      have A4 := hA.below b4 hA.all_lt
      have B4 := hB.below b4 hB.all_lt
      obtain ⟨t0, t1, t2, t3⟩ := CELL.out w4 bb4
      by_cases hk4 : o.k = 0
      · have HD : Hid ((M.done o).sure = List.replicate 30 0 ∧ (∀ j, (M.done o).way j = none) ∧ (M.done o).stops = false) := by
          rw [(step0 M o hk4).2]
          obtain ⟨x1, x2, x3⟩ := HSL.out
          unfold Mem.store
          split
          · exact ⟨x1, x2, x3⟩
          · exact ⟨x1, x2, x3⟩
        obtain ⟨d1, _, _, _⟩ := done_keeps M o (by omega)
        have hk4b : (o.k == 0) = true := by simp [hk4]
        have HK4 : Hid (o.k = 0) := hk4
        clear hk4
        go_wp2_with fail
        refine (does_any La M o kv _ A4 hc9 ho (hka.is bb4 hLa')).mono ?_
        rintro e w5 ⟨rfl, A5, o5⟩
        clear t0 t1 t2 t3
        have bb5 := below_only bb4 o5 bb4.size hLa'
        have B5 := B4.kept o5 dBA
        obtain ⟨t0, t1, t2, t3⟩ := CELL.out w5 bb5
        go_wp2_with fail
        refine (does_any Lb M o kv _ B5 hc9 ho (hka.is bb5 hLb')).mono ?_
        rintro e w6 ⟨rfl, B6, o6⟩
        clear t0 t1 t2 t3
        have bb6 := below_only bb5 o6 bb5.size hLb'
        have A6 := A5.kept o6 dAB
        go_wp2
        go_roundw
        case rel => exact ⟨k + 1, M.done o, by omega, by go_num, A6, B6, HD.out.1, HD.out.2.1, HD.out.2.2, by omega, bb6⟩
        case measure => simp [intOf]; omega
      · clear t0 t1 t2 t3
        have hk4b : (o.k == 0) = false := by simp [hk4]
        go_wp2
        go_roundw
        case rel => exact ⟨k + 1, M, by omega, by go_num, A4, B4, HSL.out.1, HSL.out.2.1, HSL.out.2.2, by omega, bb4⟩
        case measure => simp [intOf]; omega
    · obtain rfl : k = sc.length := by omega
      clear hO
      have hin := hB.looseIn
      have hM30 : M.sure.length = 30 := by rw [HSL.out.1]; simp
      have HM30 : Hid (M.sure.length = 30) := hM30
      clear hM30
      go_wp2_with fail
      refine (loose_any Lb M _ hB hc9).mono ?_
      rintro e w4 ⟨v, rfl, row4, _, b4⟩
      obtain ⟨va, vc, rfl, _⟩ := ownsRow_form0 row4
      have bb4 := hb.trans (b4.mono hb.size)
      have A4 := hA.below b4 hA.all_lt
      have B4 := hB.below b4 hB.all_lt
      clear row4 b4 hA hB hb
      go_wp2
      go_loopw [7] (fun i wr => ∃ (t : Nat) (N : Mem), t ≤ 30 ∧ i = .int .i64 t ∧ MemIs wr La N ∧ MemIs wr Lb N ∧ N.sure = M.sure ∧ N.loose = M.loose ∧ N.stops = false ∧ N.calls ≤ M.calls + t ∧ (∀ j : Int, j < t → (M.loose j).isSome = true → N.way j = M.loose j) ∧ (∀ j, N.way j = none ∨ N.way j = M.loose j) ∧ Below w.heap.size w wr) (fun i _ => 30 - (intOf i).toNat)
      case atStart => exact ⟨0, M, Nat.zero_le _, rfl, A4, B4, rfl, rfl, HSL.out.2.2, Nat.le_refl _, fun j hj hs => by
          obtain ⟨v, hv⟩ := Option.isSome_iff_exists.1 hs
          have := hin j v hv; omega, fun j => .inl (HSL.out.2.1 j), bb4⟩
      case round =>
        clear A4 B4 bb4
        obtain ⟨t, N, ht, rfl, hA, hB, n1, n2, n3, n4, n5, n6, hb⟩ := hrel
        have HN : Hid (N.sure = M.sure ∧ N.loose = M.loose ∧ N.stops = false ∧ (∀ j : Int, j < t → (M.loose j).isSome = true → N.way j = M.loose j) ∧ (∀ j, N.way j = none ∨ N.way j = M.loose j)) := ⟨n1, n2, n3, n5, n6⟩
        have hN30 : N.sure.length = 30 := by rw [n1]; exact HM30.out
        have HN30 : Hid (N.sure.length = 30) := hN30
        have hstill : N.still = false := by simp [Mem.still, n3]
        clear n1 n2 n3 n5 n6 hN30
        have hcN : N.calls < 1000000000 := by omega
        by_cases hlt2 : t < 30
        · have herr : N.errAt t = 0 := by
            unfold Mem.errAt Mem.has
            rw [hstill, HN30.out]; simp; omega
          have hfl : N.flush t = { N.counted with way := wayOf N ((t : Int) / 8) } := by simp [Mem.flush, herr]
          have HF : Hid _ := hfl
          clear hfl hstill
          go_wp2_with fail
          refine (flush_any La N t _ hA hcN).mono ?_
          rintro e w5 ⟨rfl, A5, o5⟩
          have bb5 := below_only hb o5 hb.size hLa'
          have B5 := hB.kept o5 dBA
          rw [herr]
          go_wp2_with fail
          refine (flush_any Lb N t _ B5 hcN).mono ?_
          rintro e w6 ⟨rfl, B6, o6⟩
          have bb6 := below_only bb5 o6 bb5.size hLb'
          have A6 := A5.kept o6 dAB
          rw [herr]
          go_wp2
          go_roundw
          case rel =>
            obtain ⟨m1, m2, m3, m5, m6⟩ := HN.out
            have hw : ∀ j, (N.flush t).way j = wayOf N ((t : Int) / 8) j := fun j => by rw [HF.out]
            refine ⟨t + 1, N.flush t, by omega, by go_num, A6, B6, by rw [HF.out]; exact m1, by rw [HF.out]; exact m2, by rw [HF.out]; exact m3, by rw [HF.out]; show N.calls + 1 ≤ _; omega, ?_, ?_, bb6⟩
            · intro j hj hs
              rw [hw, wayOf, m2]
              by_cases e : j / 8 = (t : Int) / 8
              · rw [if_pos ⟨e, hs⟩]
              · rw [if_neg (fun x => e x.1)]
                have : j ≠ t := fun x => e (by rw [x])
                exact m5 j (by omega) hs
            · intro j
              rw [hw, wayOf, m2]
              split
              · exact .inr rfl
              · exact m6 j
          case measure => simp [intOf]; omega
        · obtain rfl : t = 30 := by omega
          obtain ⟨m1, m2, m3, m5, m6⟩ := HN.out
          have herr : N.err = 0 := by simp [Mem.err, hstill]
          have hall : ∀ j v, N.loose j = some v → N.way j = some v := fun j v hv => by
            have hj := hB.looseIn j v hv
            rw [HN30.out] at hj
            rw [m2] at hv
            rw [m5 j hj.2 (by rw [hv]; rfl)]; exact hv
          have hor : ∀ j, N.way j = none ∨ N.way j = N.loose j := fun j => by rw [m2]; exact m6 j
          have hF0 : ∀ j, N.fence.loose j = none := fence_loose N herr hall
          have hFk : N.fence.keys = [] := keys_none _ hF0
          have hFs : N.fence.sure = N.image := fence_sure N herr hall hor
          have hNk : N.keys = M.keys := keys_congr N M (by rw [m1]) (fun j => by rw [m2])
          have hI1 : (N.fence.crash []).image = N.image := by rw [crash_image, crashTo_nil, hFs]
          have hI2 : (N.crash []).image = List.replicate 30 0 := by rw [crash_image, crashTo_nil, m1, HSL.out.1]
          have hFc : N.fence.calls < 1000000000 := by rw [fence_calls]; omega
          have HI : Hid ((N.fence.crash []).image = N.image ∧ (N.crash []).image = List.replicate 30 0 ∧ N.fence.keys = [] ∧ N.keys = M.keys ∧ N.image.length = 30 ∧ (N.fence.crash []).sure.length = 30 ∧ (N.crash []).sure.length = 30) :=
            ⟨hI1, hI2, hFk, hNk, by simp [Mem.image, HN30.out], by show (crashTo _ _ _).length = 30; rw [crashTo_len, fence_len]; exact HN30.out, by show (crashTo _ _ _).length = 30; rw [crashTo_len]; exact HN30.out⟩
          clear m1 m2 m3 m5 m6 hall hor hF0 hFk hFs hNk hI1 hI2 hstill
          go_wp2_with fail
          refine (image_any La N _ hA).mono ?_
          rintro e w4 ⟨rfl, row4, b4⟩
          have bb4 := hb.trans (b4.mono hb.size)
          have A4 := hA.below b4 hA.all_lt
          have B4 := hB.below b4 hB.all_lt
          have wasA : wr.heap.size ∉ La.blocks := fun hm => absurd (hA.all_lt _ hm) (Nat.lt_irrefl _)
          have wasB : wr.heap.size ∉ Lb.blocks := fun hm => absurd (hB.all_lt _ hm) (Nat.lt_irrefl _)
          have r4 : RowIs .u64 w4 (some ⟨wr.heap.size, 0, none⟩) N.image := rowIs_of_owns row4
          clear row4 hA hB hb
          generalize wr.heap.size = rb at *
          go_wp2_with fail
          refine (fence_any La N _ A4 hcN).mono ?_
          rintro e w5 ⟨rfl, A5, o5⟩
          rw [herr]
          have bb5 := below_only bb4 o5 bb4.size hLa'
          have B5 := B4.kept o5 dBA
          have r5 := r4.only2 o5 (.inr ⟨_, rfl, wasA⟩)
          clear A4 B4 r4
          go_wp2_with fail
          refine (loose_any La N.fence _ A5 hFc).mono ?_
          rintro e w6 ⟨v6, rfl, row6, _, b6⟩
          obtain ⟨va6, vc6, rfl, _⟩ := ownsRow_form0 row6
          have bb6 := bb5.trans (b6.mono bb5.size)
          have A6 := A5.below b6 A5.all_lt
          have B6 := B5.below b6 B5.all_lt
          have r6 := r5.below b6
          rw [HI.out.2.2.1]
          clear row6 A5 B5 r5
          go_wp2_with fail
          refine (loose_any Lb N _ B6 hcN).mono ?_
          rintro e w7 ⟨v7, rfl, row7, _, b7⟩
          obtain ⟨va7, vc7, rfl, _⟩ := ownsRow_form0 row7
          have bb7 := bb6.trans (b7.mono bb6.size)
          have A7 := A6.below b7 A6.all_lt
          have B7 := B6.below b7 B6.all_lt
          have r7 := r6.below b7
          rw [HI.out.2.2.2.1]
          clear row7 A6 B6 r6
          go_wp2_with fail
          refine (crash_any La N.fence _ [] _ A7 hFc (keepIs_nil _ _) (by decide)).mono ?_
          rintro e w8 ⟨rfl, A8, o8⟩
          have bb8 := below_only bb7 o8 bb7.size hLa'
          have B8 := B7.kept o8 dBA
          have r8 := r7.only2 o8 (.inr ⟨_, rfl, wasA⟩)
          clear A7 B7 r7
          go_wp2_with fail
          refine (crash_any Lb N _ [] _ B8 hcN (keepIs_nil _ _) (by decide)).mono ?_
          rintro e w9 ⟨rfl, B9, o9⟩
          have bb9 := below_only bb8 o9 bb8.size hLb'
          have A9 := A8.kept o9 dAB
          have r9 := r8.only2 o9 (.inr ⟨_, rfl, wasB⟩)
          clear A8 B8 r8
          generalize N.fence.crash [] = Ma at *
          generalize N.crash [] = Mb at *
          have iA := fun W hW => image_any La Ma W hW
          rw [HI.out.2.2.2.2.2.1] at iA
          have iB := fun W hW => image_any Lb Mb W hW
          rw [HI.out.2.2.2.2.2.2] at iB
          rw [show N.sure.length = 30 from HN30.out]
          have IA : Hid _ := iA
          have IB : Hid _ := iB
          clear iA iB
          have s9 : St w La Lb Ma Mb rb N.image w9 := ⟨A9, B9, r9, bb9⟩
          clear A9 B9 r9 bb9
          have hmk := make30
          go_wp2
          go_region_with (first
            | (go_at_call_of 21 (Value.pointer (some ⟨La.mb, 0, none⟩)); refine Calls.mono (Hid.out IA _ ?_) ?_; exact s9.drew.a; rintro e w10 ⟨rfl, row10, b10⟩; have s10 := s9.drew.below b10; have i10 := rowIs_of_owns row10; clear row10)
            | (go_at_call_of 20 (some (⟨rb, 0, none⟩ : Addr)); refine Calls.mono (same30 _ _ _ Ma.image N.image i10 s10.r ?_ HI.out.1) ?_; rw [HI.out.1]; exact HI.out.2.2.2.2.1; rintro e w11 ⟨rfl, b11⟩; have s11 := s10.below (b11 _))
            | (go_at_call_of 21 (Value.pointer (some ⟨Lb.mb, 0, none⟩)); refine Calls.mono (Hid.out IB _ ?_) ?_; (first | exact s11.b | exact s11.b.alloc _); rintro e w12 ⟨rfl, row12, b12⟩; have i12 := rowIs_of_owns row12; clear row12)
            | (go_at_call_of 20 (some (⟨w12.heap.size, 0, none⟩ : Addr)); refine Calls.mono (same30 _ _ _ Mb.image (List.replicate 30 0) (i12.below ((Below.refl _ _).alloc (Nat.le_refl _) _)) (zeros _) ?_ HI.out.2.1) ?_; rw [HI.out.2.1]; simp; rintro e w13 ⟨rfl, b13⟩; have bel13 := ((s11.below b12).bel.alloc (s11.below b12).bel.size (.cells z30 32)).trans (b13 _))
            | (go_at_call 20; have i12b : RowIs .u64 w12 (some ⟨w11.heap.size + 1, 0, none⟩) Mb.image := (by simpa using i12); refine Calls.mono (same30 _ _ _ Mb.image (List.replicate 30 0) i12b ((zeros _).below b12) ?_ HI.out.2.1) ?_; rw [HI.out.2.1]; simp; rintro e w13 ⟨rfl, b13⟩; have bel13 := ((s11.bel.alloc s11.bel.size (.cells z30 32)).trans (b12.mono (by have := s11.bel.size; simp; omega))).trans (b13 _)))
          all_goals
            go_wp2
            go_ret
            exact ⟨rfl, bel13⟩

set_option maxRecDepth 100000 in
theorem lifted (os : Os) (started : os.Started) (H : Type) (enc : TypeId × Value → H) :
    ReturnsInHanded {} Try.checked os 9 .any (Rows.memoryFlushesSpec.pre6 enc Try.prog Try.f9 Rows.memoryFlushesRow.domain false) (Rows.memoryFlushesSpec.post enc Try.prog Try.f9 false true false false) := by
  refine returnsInHanded_of_change (C := Try.checked) own started (by kernel_rfl) Try.func9
    (ChangeSpec.witness6 (enc := enc) (C := Try.checked) false ⟨#[], #[.slice none 0 0], []⟩ 8 (by kernel_rfl) (by kernel_rfl) (by kernel_rfl) (by kernel_rfl)) ?_
  intro W base args ds gs before hval0 hW hcnd _
  have hval : ∀ (j : Nat) t v, Try.f9.params[j]? = some t → args[j]? = some v → Value.okWide Try.prog W .any base t v := hval0
  have hW' := hW
  obtain ⟨p, q, hA0, hV, rfl, hfz, hnd⟩ := hW
  have hA : DataW.TrodAll enc Try.prog W 0 (fun _ => true) true Try.f9.params.toList args.toList ds p := hA0
  rw [Try.params9] at hA hval
  obtain ⟨v0, vs0, d0, ds0, p0, q0, hargs, rfl, rfl, h0, r0⟩ := trodAll_cons hA
  obtain ⟨rfl, rfl, rfl⟩ := trodAll_nil r0
  obtain rfl : args = #[v0] := by cases args; simp_all
  obtain ⟨rfl, rfl⟩ := trodVars_none hV
  obtain ⟨a0, len0, cap0, rfl⟩ := okWide_slice Try.underlying22 (hval 0 22 v0 rfl rfl)
  have k0 := h0
  have lt0 : ∀ x ∈ p0, x.block < W.heap.size := by obtain ⟨m, hm⟩ := k0; exact DataW.trod_lt m _ _ _ hm
  obtain ⟨ops0, hl0, w0⟩ := open_ops rfl h0
  subst hl0
  clear hA0 hval0
  refine (walk a0 cap0 ops0 W w0).mono fun e W' ⟨he, bel⟩ => ?_
  subst he
  exact ⟨_, rfl, _, _, _, [], _, [], hW', trodAll_mk1 (shut_bool Try.underlying4 _), (trodAll_cons_mk (Below.trod laidOut (by kernel_rfl) (of_decide_eq_true (by kernel_rfl)) k0 bel lt0) trodAll_mk0), rfl, bel.frame _, fun h => by cases h⟩

theorem over : Rows.memoryFlushesRow.holds Try.pinned (OpenSpec.ofChange Rows.memoryFlushesSpec) :=
  OpenClaim.holds_of_wide 9 Try.f9 rfl rfl rfl rfl rfl rfl rfl ⟨rfl, rfl, rfl, rfl, rfl⟩ rfl rfl rfl rfl rfl (by kernel_rfl) Try.func9 (by kernel_rfl)
    (of_decide_eq_true (by kernel_rfl)) (by unfold Func.isWrapper; first | (rw [if_pos (by decide +kernel)]; kernel_rfl) | (rw [if_neg (by decide +kernel)]; exact ⟨rfl, rfl⟩))
    (fun os started H enc _ => lifted os started H enc)

theorem proved : Rows.MemoryFlushesSaid := over
#print axioms proved
end Go.Proofs.Ytoabgkkfhoiagaa.memoryFlushes
