/- MemorySure: for every two scripts and every keep, what was stored, flushed and fenced is there behind whatever crash if it wasn't stored again, and each other word is one of both: the law returns true, and leaves its arguments as they were. No condition. -/
import Derived.Test.YtoabgkkfhoiagaaRows
import Derived.Test.YtoabgkkfhoiagaaFacts2
import Derived.WalkKit
import Derived.ProofKit
import Derived.OpenShut
import Derived.ShutString
import Derived.ChangeOld
import Derived.Below
namespace Go.Proofs.Ytoabgkkfhoiagaa.memorySure
open Go.ChangeShapes Go.WideShapes Go.ChangeAt Go.RowKit
set_option linter.unusedVariables false

theorem own : ownKnob Try.prog.godebug = none := by kernel_rfl
theorem laidOut : laidOutB Try.prog = true := by kernel_rfl

/-- Block b is an array of thirty cells, as f says. -/
def Arr (w : World) (b e : Nat) (f : Nat → Value) : Prop := w.ownsRow 0 e 1 (.slice (some ⟨b, 0, none⟩) 30 30) 30 ((List.range 30).map f)

theorem Arr.cell {w : World} {b e : Nat} {f : Nat → Value} (h : Arr w b e f) (i : Nat) (hi : i < 30) : w.cell? ⟨b, i, none⟩ = some (f i) := by
  rw [World.ownsRow.cellAt h i (by omega)]; simp [hi]
theorem Arr.fz {w : World} {b e : Nat} {f : Nat → Value} (h : Arr w b e f) (i : Nat) : w.frozen? ⟨b, i, none⟩ = false := World.ownsRow.frozenAt h i
theorem Arr.of_block {w w' : World} {b e : Nat} {f : Nat → Value} (h : Arr w b e f) (hb : w'.heap[b]? = w.heap[b]?) : Arr w' b e f :=
  ownsRow_of_block h (fun g hg => by cases hg; exact hb)
theorem Arr.lt {w : World} {b e : Nat} {f : Nat → Value} (h : Arr w b e f) : b < w.heap.size := (World.ownsRow.lt h b rfl).2
theorem Arr.only {w w' : World} {b e : Nat} {f : Nat → Value} {S : List Nat} (h : Arr w b e f) (ho : Only S w w') (hb : b ∉ S) : Arr w' b e f := h.of_block (ho.block b h.lt hb)
theorem Arr.below {w w' : World} {b e : Nat} {f : Nat → Value} (h : Arr w b e f) (hb : Below w.heap.size w w') : Arr w' b e f := h.of_block (hb.block b h.lt)
theorem Arr.other {w : World} {b e : Nat} {f : Nat → Value} (h : Arr w b e f) {a : Addr} (ha : b ≠ a.block) (u : Value) : Arr (w.setCell a u) b e f := h.of_block (Below.heap_setCell _ _ _ _ ha)
theorem Arr.set {w : World} {b e : Nat} {f : Nat → Value} (h : Arr w b e f) (k : Nat) (u : Value) : Arr (w.setCell ⟨b, k, none⟩ u) b e (fun i => if i = k then u else f i) := by
  have h1 := (World.ownsRow.stored h k u).1
  have e1 : ((List.range 30).map f).set k u = (List.range 30).map fun i => if i = k then u else f i := by
    apply List.ext_getElem (by simp)
    intro i h1 h2
    rw [List.getElem_set]
    simp only [List.getElem_map, List.getElem_range]
    by_cases e : k = i
    · subst e; simp
    · rw [if_neg e, if_neg (fun x => e x.symm)]
  rw [e1] at h1
  exact h1
theorem Arr.made (w : World) (c : Array Value) (e : Nat) (f : Nat → Value) (hc : c.toList = (List.range 30).map f) : Arr (w.alloc (.cells c e)) w.heap.size e f := by
  have hs : c.size = 30 := by rw [← Array.length_toList, hc]; simp
  refine ⟨by simp, .inr ⟨w.heap.size, 30, c, rfl, Nat.zero_le _, heap_alloc_new w _, Nat.le_refl _, by unfold maxLen; omega, by omega, ?_⟩⟩
  rw [hc]; exact List.take_of_length_le (by simp)

theorem Arr.made1 (w : World) (c c' : Array Value) (e e' : Nat) (f : Nat → Value) (hc : c.toList = (List.range 30).map f) : Arr ((w.alloc (.cells c e)).alloc (.cells c' e')) w.heap.size e f :=
  (Arr.made w c e f hc).below ((Below.refl _ _).alloc (Nat.le_refl _) _)
theorem Arr.made2 (w : World) (c c' : Array Value) (e e' : Nat) (f : Nat → Value) (hc : c'.toList = (List.range 30).map f) : Arr ((w.alloc (.cells c e)).alloc (.cells c' e')) (w.heap.size + 1) e' f := by
  have h := Arr.made (w.alloc (.cells c e)) c' e' f hc
  have e1 : (w.alloc (.cells c e)).heap.size = w.heap.size + 1 := by simp
  rw [e1] at h
  exact h

/-- Which words were stored, and with what. -/
def Rel (M : Mem) (sto : Nat → Bool) (last : Nat → Int) : Prop := ∀ i : Nat, i < 30 → M.loose i = if sto i = true then some (last i) else none

theorem rel_store {M : Mem} {sto : Nat → Bool} {last : Nat → Int} (h : Rel M sto last) (j : Nat) (v : Int) (he : M.errAt j = 0) : Rel (M.store j v) (fun i => if i = j then true else sto i) (fun i => if i = j then v else last i) := by
  intro i hi
  have e : (M.store j v).loose = upd M.loose j (some v) := by unfold Mem.store; rw [if_pos he]
  rw [e]
  by_cases e2 : i = j
  · subst e2; rw [upd_same]; simp
  · rw [upd_other _ _ (by omega), h i hi]; simp [e2]
theorem store_no {M : Mem} (k v : Int) (he : ¬ M.errAt k = 0) : M.store k v = M.counted := by unfold Mem.store; rw [if_neg he]

theorem store_sure (M : Mem) (k v : Int) : (M.store k v).sure = M.sure := by unfold Mem.store; split <;> rfl
theorem flush_sure (M : Mem) (k : Int) : (M.flush k).sure = M.sure := by unfold Mem.flush; split <;> rfl
theorem flush_loose (M : Mem) (k : Int) : (M.flush k).loose = M.loose := by unfold Mem.flush; split <;> rfl
theorem Arr.drew {w : World} {b e : Nat} {f : Nat → Value} (h : Arr w b e f) : Arr w.drew b e f := World.ownsRow.drew h
theorem row_drew {q : IntKind} {w : World} {a : Option Addr} {xs : List Int} (h : RowIs q w a xs) : RowIs q w.drew a xs := h.same (fun B => ⟨rfl, rfl, rfl, Nat.le_refl _, fun _ _ => rfl⟩)
theorem Arr.congr {w : World} {b e : Nat} {f g : Nat → Value} (h : Arr w b e f) (hg : ∀ i, g i = f i) : Arr w b e g := by
  have : g = f := funext hg
  rw [this]; exact h

theorem crash_read (M : Mem) (ks : List Bool) (hin : ∀ k v, M.loose k = some v → 0 ≤ k ∧ k < M.sure.length) (i : Nat) (hi : i < M.sure.length) :
    (M.crash ks).read i = M.sure.getD i 0 ∨ (M.crash ks).read i = (M.loose i).getD (M.sure.getD i 0) := by
  have hl : (M.crash ks).sure.length = M.sure.length := crashTo_len M ks _
  rw [read_of _ i (by rw [hl]; exact hi)]
  have e : (M.crash ks).loose i = none := rfl
  rw [e, Option.getD_none]
  exact crashTo_or M ks hin _ (Nat.le_refl _) i hi

set_option maxHeartbeats 8000000 in
set_option maxRecDepth 100000 in
theorem walk (a0 : Option Addr) (cap0 : Nat) (ops0 : List Step) (a1 : Option Addr) (cap1 : Nat) (ops1 : List Step) (kv0 : Value) (ks : List Bool) (w : World) (h0 : OpsAt w a0 cap0 ops0) (h1 : OpsAt w a1 cap1 ops1) (hks : KeepAt w kv0 ks) :
    Calls Try.prog 5 #[.slice a0 ops0.length cap0, .slice a1 ops1.length cap1, kv0] w fun e w' => e = .returned (.bool true) ∧ Below w.heap.size w w' := by
  have hO0 := h0.early
  have hO1 := h1.early
  have hlen0 : (ops0.take 200).length ≤ 200 := by simp; omega
  have hlen1 : (ops1.take 200).length ≤ 200 := by simp; omega
  go_enter Try.func5, Try.ntmps5
  go_wp2_with fail
  refine (lives_any _).mono ?_
  rintro e w1 ⟨rfl, b1⟩
  go_wp2_with fail
  refine (early_any w _ a0 cap0 ops0 h0).mono ?_
  rintro e w2 ⟨rfl, hw⟩
  obtain rfl := hw.symm
  clear h0
  generalize ops0.take 200 = sc at *
  go_wp2_with fail
  refine (early_any w _ a1 cap1 ops1 h1).mono ?_
  rintro e w2 ⟨rfl, hw⟩
  obtain rfl := hw.symm
  clear h1
  generalize ops1.take 200 = sd at *
  go_wp2_with fail
  refine (new_any 30 30 _ (by decide)).mono ?_
  rintro e w2 ⟨L, rfl, hA0, hL, b2⟩
  have b2' := b1.trans (b2.mono b1.size)
  have hL' : ∀ j ∈ L.blocks, w.heap.size ≤ j := fun j hj => Nat.le_trans b1.size (hL j hj)
  go_wp2
  go_loopw [8] (fun i wr => ∃ (k : Nat) (M : Mem), k ≤ sc.length ∧ i = .int .i64 k ∧ MemIs wr L M ∧ M.sure = List.replicate 30 0 ∧ (∀ j, M.way j = none) ∧ M.stops = false ∧ M.calls ≤ k ∧ Below w.heap.size w wr) (fun i _ => sc.length - (intOf i).toNat)
  case atStart => exact ⟨0, _, Nat.zero_le _, rfl, hA0, rfl, fun _ => rfl, rfl, Nat.le_refl _, b2'⟩
  case round =>
    clear hA0
    obtain ⟨k, M, hk, rfl, hA, hsl, hway, hst, hmc, hb⟩ := hrel
    have HSL : Hid (M.sure = List.replicate 30 0 ∧ (∀ j, M.way j = none) ∧ M.stops = false) := ⟨hsl, hway, hst⟩
    clear hsl hway hst
    have hc9 : M.calls < 1000000000 := by omega
    by_cases hlt : k < sc.length
    · obtain ⟨b, off, kv, rfl, hka, ho, cell⟩ := hO0.at k hlt
      generalize sc.getD k noStep = o at *
      have CELL : Hid _ := cell
      clear cell hO0 hO1
      have hki : (k : Int) < (sc.length : Int) := by omega
      obtain ⟨t0, t1, t2, t3⟩ := CELL.out wr hb
      go_wp2_with fail
      refine (kind_any o kv _).mono ?_
      rintro e w4 ⟨rfl, b4⟩
      clear t0 t1 t2 t3
      have bb4 := hb.trans (b4.mono hb.size)
      have A4 := hA.below b4 hA.all_lt
      obtain ⟨t0, t1, t2, t3⟩ := CELL.out w4 bb4
      by_cases hk4 : o.k = 0
      · have HD : Hid ((M.done o).sure = List.replicate 30 0 ∧ (∀ j, (M.done o).way j = none) ∧ (M.done o).stops = false) := by
          rw [(step0 M o hk4).2]
          obtain ⟨x1, x2, x3⟩ := HSL.out
          unfold Mem.store
          split
          · exact ⟨x1, x2, x3⟩
          · exact ⟨x1, x2, x3⟩
        obtain ⟨d1, _, _, _⟩ := done_keeps M o (by omega)
        have hk4b : (o.k == 0) = true := by simp [hk4]
        have HK4 : Hid (o.k = 0) := hk4
        clear hk4
        go_wp2_with fail
        refine (does_any L M o kv _ A4 hc9 ho (hka.is bb4 hL')).mono ?_
        rintro e w5 ⟨rfl, A5, o5⟩
        clear t0 t1 t2 t3
        have bb5 := below_only bb4 o5 bb4.size hL'
        go_wp2
        go_roundw
        case rel => exact ⟨k + 1, M.done o, by omega, by go_num, A5, HD.out.1, HD.out.2.1, HD.out.2.2, by omega, bb5⟩
        case measure => simp [intOf]; omega
      · clear t0 t1 t2 t3
        have hk4b : (o.k == 0) = false := by simp [hk4]
        go_wp2
        go_roundw
        case rel => exact ⟨k + 1, M, by omega, by go_num, A4, HSL.out.1, HSL.out.2.1, HSL.out.2.2, by omega, bb4⟩
        case measure => simp [intOf]; omega
    · obtain rfl : k = sc.length := by omega
      clear hO0
      have hin := hA.looseIn
      have hM30 : M.sure.length = 30 := by rw [HSL.out.1]; simp
      have HM30 : Hid (M.sure.length = 30) := hM30
      clear hM30
      go_wp2
      go_loopw [9] (fun i wr => ∃ (t : Nat) (N : Mem), t ≤ 4 ∧ i = .int .i64 (8 * t : Nat) ∧ MemIs wr L N ∧ N.sure = M.sure ∧ N.loose = M.loose ∧ N.stops = false ∧ N.calls ≤ M.calls + t ∧ (∀ j : Int, j < (8 * t : Nat) → (M.loose j).isSome = true → N.way j = M.loose j) ∧ (∀ j, N.way j = none ∨ N.way j = M.loose j) ∧ Below w.heap.size w wr) (fun i _ => 32 - (intOf i).toNat)
      case atStart => exact ⟨0, M, Nat.zero_le _, rfl, hA, rfl, rfl, HSL.out.2.2, Nat.le_refl _, fun j hj hs => by
          obtain ⟨v, hv⟩ := Option.isSome_iff_exists.1 hs
          have := hin j v hv; omega, fun j => .inl (HSL.out.2.1 j), hb⟩
      case round =>
        clear hA hb
        obtain ⟨t, N, ht, rfl, hA, n1, n2, n3, n4, n5, n6, hb⟩ := hrel
        have HN : Hid (N.sure = M.sure ∧ N.loose = M.loose ∧ N.stops = false ∧ (∀ j : Int, j < (8 * t : Nat) → (M.loose j).isSome = true → N.way j = M.loose j) ∧ (∀ j, N.way j = none ∨ N.way j = M.loose j)) := ⟨n1, n2, n3, n5, n6⟩
        have hN30 : N.sure.length = 30 := by rw [n1]; exact HM30.out
        have HN30 : Hid (N.sure.length = 30) := hN30
        have hstill : N.still = false := by simp [Mem.still, n3]
        clear n1 n2 n3 n5 n6 hN30
        have hcN : N.calls < 1000000000 := by omega
        obtain ⟨i8, hi8⟩ : ∃ i8 : Nat, i8 = 8 * t := ⟨_, rfl⟩
        rw [← hi8]
        by_cases hlt2 : i8 < 30
        · have herr : N.errAt i8 = 0 := by
            unfold Mem.errAt Mem.has
            rw [hstill, HN30.out]; simp; omega
          have hfl : N.flush i8 = { N.counted with way := wayOf N ((i8 : Int) / 8) } := by simp [Mem.flush, herr]
          have HF : Hid (N.flush i8 = { N.counted with way := wayOf N ((i8 : Int) / 8) } ∧ i8 = 8 * t) := ⟨hfl, hi8⟩
          have hlt3 : i8 + 8 ≤ 32 := by omega
          have ht4 : t + 1 ≤ 4 := by omega
          clear hfl hstill hi8
          go_wp2_with fail
          refine (flush_any L N i8 _ hA hcN).mono ?_
          rintro e w5 ⟨rfl, A5, o5⟩
          have bb5 := below_only hb o5 hb.size hL'
          rw [herr]
          go_wp2
          go_roundw
          case rel =>
            obtain ⟨m1, m2, m3, m5, m6⟩ := HN.out
            obtain ⟨hfl, hi8⟩ := HF.out
            have hw : ∀ j, (N.flush i8).way j = wayOf N ((i8 : Int) / 8) j := fun j => by rw [hfl]
            refine ⟨t + 1, N.flush i8, by omega, by rw [hi8]; go_num, A5, by rw [hfl]; exact m1, by rw [hfl]; exact m2, by rw [hfl]; exact m3, by rw [hfl]; show N.calls + 1 ≤ _; omega, ?_, ?_, bb5⟩
            · intro j hj hs
              rw [hw, wayOf, m2]
              by_cases e : j / 8 = (i8 : Int) / 8
              · rw [if_pos ⟨e, hs⟩]
              · rw [if_neg (fun x => e x.1)]
                exact m5 j (by omega) hs
            · intro j
              rw [hw, wayOf, m2]
              split
              · exact .inr rfl
              · exact m6 j
          case measure => simp [intOf]; omega
        · have ht4 : t = 4 := by omega
          obtain ⟨m1, m2, m3, m5, m6⟩ := HN.out
          have herr : N.err = 0 := by simp [Mem.err, hstill]
          have hall : ∀ j v, N.loose j = some v → N.way j = some v := fun j v hv => by
            have hj := hA.looseIn j v hv
            rw [HN30.out] at hj
            rw [m2] at hv
            rw [m5 j (by omega) (by rw [hv]; rfl)]; exact hv
          have hF0 : ∀ j, N.fence.loose j = none := fence_loose N herr hall
          have hFk : N.fence.keys = [] := keys_none _ hF0
          have hFc : N.fence.calls ≤ 300 := by rw [fence_calls]; omega
          have hFst : N.fence.stops = false := by unfold Mem.fence; rw [if_pos herr]; exact m3
          have hFl : N.fence.sure.length = 30 := by rw [fence_len]; exact HN30.out
          have HF : Hid ((∀ j, N.fence.loose j = none) ∧ N.fence.keys = [] ∧ N.fence.stops = false ∧ N.fence.sure.length = 30) := ⟨hF0, hFk, hFst, hFl⟩
          clear m1 m2 m3 m5 m6 hall hF0 hFk hFst hFl hstill HN HSL
          go_wp2_with fail
          refine (fence_any L N _ hA hcN).mono ?_
          rintro e w5 ⟨rfl, A5, o5⟩
          rw [herr]
          have bb5 := below_only hb o5 hb.size hL'
          clear hA hb herr
          generalize N.fence = F at *
          have hcF : F.calls < 1000000000 := by omega
          go_wp2_with fail
          refine (loose_any L F _ A5 hcF).mono ?_
          rintro e w6 ⟨v6, rfl, row6, _, b6⟩
          obtain ⟨va6, vc6, rfl, _⟩ := ownsRow_form0 row6
          have bb6 := bb5.trans (b6.mono bb5.size)
          have A6 := A5.below b6 A5.all_lt
          rw [HF.out.2.1]
          clear row6 A5 bb5 b6 o5
          go_wp2_with fail
          refine (image_any L F _ A6).mono ?_
          rintro e w7 ⟨rfl, row7, b7⟩
          have bb7 := bb6.trans (b7.mono bb6.size)
          have A7 := A6.below b7 A6.all_lt
          have wasA : w6.heap.size ∉ L.blocks := fun hm => absurd (A6.all_lt _ hm) (Nat.lt_irrefl _)
          have r7 : RowIs .u64 w7 (some ⟨w6.heap.size, 0, none⟩) F.sure := by rw [← image_none F HF.out.1]; exact rowIs_of_owns row7
          have hws : w.heap.size ≤ w6.heap.size := bb6.size
          have hw67 : w6.heap.size < w7.heap.size := (World.ownsRow.lt row7 _ rfl).2
          clear row7 A6 bb6 b7
          rw [HF.out.2.2.2]
          generalize w6.heap.size = rb at *
          have sA : w7.heap.size ∉ L.blocks := fun hm => absurd (A7.all_lt _ hm) (Nat.lt_irrefl _)
          have lA : w7.heap.size + 1 ∉ L.blocks := fun hm => by have := A7.all_lt _ hm; omega
          have hw7 : w.heap.size ≤ w7.heap.size := bb7.size
          have rel0 : Rel F (fun _ => false) (fun _ => 0) := fun i _ => by simp [HF.out.1]
          have HF2 : Hid (F.stops = false ∧ F.sure.length = 30) := ⟨HF.out.2.2.1, HF.out.2.2.2⟩
          clear HF hcF
          go_wp2
          go_loopw [13] (fun i wr => ∃ (k : Nat) (N2 : Mem) (sto : Nat → Bool) (last : Nat → Int), k ≤ sd.length ∧ i = .int .i64 k ∧ MemIs wr L N2 ∧ N2.sure = F.sure ∧ N2.stops = false ∧ N2.calls ≤ 300 + k ∧ Rel N2 sto last ∧ Arr wr w7.heap.size 54 (fun i => .bool (sto i)) ∧ Arr wr (w7.heap.size + 1) 55 (fun i => .int .u64 (last i)) ∧ RowIs .u64 wr (some ⟨rb, 0, none⟩) F.sure ∧ Below w.heap.size w wr) (fun i _ => sd.length - (intOf i).toNat)
          case atStart =>
            refine ⟨0, F, fun _ => false, fun _ => 0, Nat.zero_le _, rfl, (A7.alloc _).alloc _, rfl, HF2.out.1, by omega, rel0, Arr.made1 w7 _ _ 54 55 _ rfl, Arr.made2 w7 _ _ 54 55 _ rfl, ?_, (bb7.alloc hw7 _).alloc (by simp; omega) _⟩
            exact (r7.below ((Below.refl _ _).alloc (Nat.le_refl _) _)).below ((Below.refl _ _).alloc (Nat.le_refl _) _)
          case round =>
            clear A7 bb7 r7 rel0
            obtain ⟨k, N2, sto, last, hk, rfl, hA, n1, n2, n3, hrel2, hS, hT, hR, hb⟩ := hrel
            have HN2 : Hid (N2.sure = F.sure ∧ N2.stops = false) := ⟨n1, n2⟩
            have hl30 : N2.sure.length = 30 := by rw [n1]; exact HF2.out.2
            have HL30 : Hid (N2.sure.length = 30) := hl30
            have hstill : N2.still = false := by simp [Mem.still, n2]
            clear n1 n2 hl30
            have hc2 : N2.calls < 1000000000 := by omega
            by_cases hlt2 : k < sd.length
            · obtain ⟨b, off, kv, rfl, hka, ho, cell⟩ := hO1.at k hlt2
              generalize sd.getD k noStep = o at *
              have CELL : Hid _ := cell
              clear cell hO1
              have hki : (k : Int) < (sd.length : Int) := by omega
              obtain ⟨t0, t1, t2, t3⟩ := CELL.out wr hb
              go_wp2_with fail
              refine (kind_any o kv _).mono ?_
              rintro e w8 ⟨rfl, b8⟩
              clear t0 t1 t2 t3
              have bb8 := hb.trans (b8.mono hb.size)
              have A8 := hA.below b8 hA.all_lt
              have S8 := hS.below b8
              have T8 := hT.below b8
              have R8 := hR.below b8
              clear hA hS hT hR hb b8
              by_cases hk1 : 1 < o.k
              · go_wp2
                go_roundw
                case rel => exact ⟨k + 1, N2, sto, last, by omega, by go_num, A8, HN2.out.1, HN2.out.2, by omega, hrel2, S8, T8, R8, bb8⟩
                case measure => simp [intOf]; omega
              · obtain ⟨t0, t1, t2, t3⟩ := CELL.out w8 bb8
                have hdk := done_keeps N2 o (by omega)
                have HDK : Hid ((N2.done o).calls ≤ N2.calls + 1 ∧ (N2.done o).stops = false) := ⟨hdk.1, hdk.2.2.1.trans HN2.out.2⟩
                clear hdk
                by_cases hk0 : o.k = 0
                · have hk0b : (o.k == 0) = true := by simp [hk0]
                  have HS0 : Hid (o.k = 0) := hk0
                  have hkn : ¬ 1 < o.k := hk1
                  clear hk0
                  by_cases hat : 0 ≤ o.at_ ∧ o.at_ < 30
                  · obtain ⟨p1, p2⟩ := hat
                    obtain ⟨j, hj⟩ : ∃ j : Nat, o.at_ = j := ⟨o.at_.toNat, by omega⟩
                    have hj30 : j < 30 := by omega
                    have htn : o.at_.toNat = j := by omega
                    have HJ : Hid (o.at_ = j) := hj
                    clear hj
                    have herr : N2.errAt j = 0 := by
                      unfold Mem.errAt Mem.has
                      rw [hstill, HL30.out]; simp; omega
                    have HE : Hid (N2.errAt j = 0) := herr
                    clear herr
                    have c1 := S8.cell j hj30
                    have f1 := S8.fz j
                    have S9 := S8.set j (.bool true)
                    have T9 := T8.other (a := ⟨w7.heap.size, j, none⟩) (by simp) (.bool true)
                    have bb9 := bb8.setCell (p := ⟨w7.heap.size, j, none⟩) hw7 (.bool true)
                    have A9 : MemIs (w8.setCell ⟨w7.heap.size, j, none⟩ (.bool true)) L N2 := A8.of_blocks fun x hx _ => Below.heap_setCell _ _ _ _ (fun e => sA (by rw [← show x = w7.heap.size from e]; exact hx))
                    have R9 : RowIs .u64 (w8.setCell ⟨w7.heap.size, j, none⟩ (.bool true)) (some ⟨rb, 0, none⟩) F.sure := R8.only2 (S := [w7.heap.size]) ((Only.refl _ _).setCell (by simp) _) (.inr ⟨rb, rfl, by simp; omega⟩)
                    obtain ⟨q0, q1, q2, q3⟩ := CELL.out _ bb9
                    have c2 := T9.cell j hj30
                    have f2 := T9.fz j
                    generalize hw9 : w8.setCell ⟨w7.heap.size, j, none⟩ (.bool true) = w9 at *
                    have S10 := S9.other (a := ⟨w7.heap.size + 1, j, none⟩) (by simp) (.int .u64 o.v)
                    have T10 := T9.set j (.int .u64 o.v)
                    have bb10 := bb9.setCell (p := ⟨w7.heap.size + 1, j, none⟩) (by show w.heap.size ≤ w7.heap.size + 1; omega) (.int .u64 o.v)
                    have A10 : MemIs (w9.setCell ⟨w7.heap.size + 1, j, none⟩ (.int .u64 o.v)) L N2 := A9.of_blocks fun x hx _ => Below.heap_setCell _ _ _ _ (fun e => lA (by rw [← show x = w7.heap.size + 1 from e]; exact hx))
                    have R10 : RowIs .u64 (w9.setCell ⟨w7.heap.size + 1, j, none⟩ (.int .u64 o.v)) (some ⟨rb, 0, none⟩) F.sure := R9.only2 (S := [w7.heap.size + 1]) ((Only.refl _ _).setCell (by simp) _) (.inr ⟨rb, rfl, by simp; omega⟩)
                    have HX : Hid (Arr (w9.setCell ⟨w7.heap.size + 1, j, none⟩ (.int .u64 o.v)) w7.heap.size 54 (fun i => if i = j then .bool true else .bool (sto i)) ∧ Arr (w9.setCell ⟨w7.heap.size + 1, j, none⟩ (.int .u64 o.v)) (w7.heap.size + 1) 55 (fun i => if i = j then .int .u64 o.v else .int .u64 (last i)) ∧ MemIs (w9.setCell ⟨w7.heap.size + 1, j, none⟩ (.int .u64 o.v)) L N2 ∧ RowIs .u64 (w9.setCell ⟨w7.heap.size + 1, j, none⟩ (.int .u64 o.v)) (some ⟨rb, 0, none⟩) F.sure ∧ Below w.heap.size w (w9.setCell ⟨w7.heap.size + 1, j, none⟩ (.int .u64 o.v))) := ⟨S10, T10, A10, R10, bb10⟩
                    clear S9 T9 A9 R9 S10 T10 A10 R10 bb10 S8 T8 R8 A8
                    go_wp2
                    go_region
                    all_goals
                      have bbX := HX.out.2.2.2.2.drew
                      obtain ⟨u0, u1, u2, u3⟩ := CELL.out _ bbX
                      go_wp2_with fail
                      refine (does_any L N2 o kv _ HX.out.2.2.1.drew hc2 ho (hka.is bbX hL')).mono ?_
                      rintro e w11 ⟨rfl, A11, o11⟩
                      have bb11 := below_only bbX o11 bbX.size hL'
                      go_wp2
                      go_roundw
                      case rel =>
                        have e2 : N2.done o = N2.store j o.v := by rw [(step0 N2 o HS0.out).2, HJ.out]
                        refine ⟨k + 1, N2.done o, fun i => if i = j then true else sto i, fun i => if i = j then o.v else last i, by omega, by go_num, A11, by rw [e2, store_sure]; exact HN2.out.1, HDK.out.2, by have := HDK.out.1; omega, by rw [e2]; exact rel_store hrel2 j o.v HE.out, ?_, ?_, ?_, bb11⟩
                        · exact (HX.out.1.drew.only o11 sA).congr (fun i => by by_cases e : i = j <;> simp [e])
                        · exact (HX.out.2.1.drew.only o11 lA).congr (fun i => by by_cases e : i = j <;> simp [e])
                        · exact (row_drew HX.out.2.2.2.1).only2 o11 (.inr ⟨rb, rfl, wasA⟩)
                      case measure => simp [intOf]; omega
                  · have herr : ¬ N2.errAt o.at_ = 0 := by
                      unfold Mem.errAt Mem.has
                      rw [hstill, HL30.out]
                      simp
                      omega
                    have e2 : N2.done o = N2.counted := by rw [(step0 N2 o HS0.out).2, store_no _ _ herr]
                    have HE2 : Hid (N2.done o = N2.counted) := e2
                    clear e2 herr
                    by_cases p1 : 0 ≤ o.at_
                    · have p2 : ¬ o.at_ < 30 := fun x => hat ⟨p1, x⟩
                      clear hat
                      go_wp2_with fail
                      refine (does_any L N2 o kv _ A8 hc2 ho (hka.is bb8 hL')).mono ?_
                      rintro e w11 ⟨rfl, A11, o11⟩
                      have bb11 := below_only bb8 o11 bb8.size hL'
                      go_wp2
                      go_roundw
                      case rel => exact ⟨k + 1, N2.done o, sto, last, by omega, by go_num, A11, by rw [HE2.out]; exact HN2.out.1, HDK.out.2, by have := HDK.out.1; omega, by rw [HE2.out]; exact hrel2, S8.only o11 sA, T8.only o11 lA, R8.only2 o11 (.inr ⟨rb, rfl, wasA⟩), bb11⟩
                      case measure => simp [intOf]; omega
                    · clear hat
                      go_wp2_with fail
                      refine (does_any L N2 o kv _ A8 hc2 ho (hka.is bb8 hL')).mono ?_
                      rintro e w11 ⟨rfl, A11, o11⟩
                      have bb11 := below_only bb8 o11 bb8.size hL'
                      go_wp2
                      go_roundw
                      case rel => exact ⟨k + 1, N2.done o, sto, last, by omega, by go_num, A11, by rw [HE2.out]; exact HN2.out.1, HDK.out.2, by have := HDK.out.1; omega, by rw [HE2.out]; exact hrel2, S8.only o11 sA, T8.only o11 lA, R8.only2 o11 (.inr ⟨rb, rfl, wasA⟩), bb11⟩
                      case measure => simp [intOf]; omega
                · have hk0b : (o.k == 0) = false := by simp [hk0]
                  have hk1' : o.k = 1 := by
                    rcases o.k_cases with h | h | h | h | h | h
                    · exact absurd h hk0
                    · exact h
                    all_goals omega
                  have e2 : N2.done o = N2.flush o.at_ := (step1 N2 o hk1').2
                  have HE2 : Hid (N2.done o = N2.flush o.at_) := e2
                  have hkn : ¬ 1 < o.k := hk1
                  clear e2 hk1'
                  go_wp2_with fail
                  refine (does_any L N2 o kv _ A8 hc2 ho (hka.is bb8 hL')).mono ?_
                  rintro e w11 ⟨rfl, A11, o11⟩
                  have bb11 := below_only bb8 o11 bb8.size hL'
                  go_wp2
                  go_roundw
                  case rel => exact ⟨k + 1, N2.done o, sto, last, by omega, by go_num, A11, by rw [HE2.out, flush_sure]; exact HN2.out.1, HDK.out.2, by have := HDK.out.1; omega, by rw [HE2.out]; intro i hi; rw [flush_loose]; exact hrel2 i hi, S8.only o11 sA, T8.only o11 lA, R8.only2 o11 (.inr ⟨rb, rfl, wasA⟩), bb11⟩
                  case measure => simp [intOf]; omega
            · obtain rfl : k = sd.length := by omega
              clear hO1
              have hcr := crash_read N2 ks hA.looseIn
              have hC : ∀ i : Nat, i < 30 → (N2.crash ks).read i = F.sure.getD i 0 ∨ (sto i = true ∧ (N2.crash ks).read i = last i) := fun i hi => by
                have h1 := hcr i (by rw [HL30.out]; exact hi)
                rw [HN2.out.1, hrel2 i hi] at h1
                cases hs : sto i with
                | false => rw [hs] at h1; left; simpa using h1
                | true => rw [hs] at h1; simpa using h1
              have hCk : (N2.crash ks).keys = [] := keys_none _ (fun _ => rfl)
              have hCc : (N2.crash ks).calls < 1000000000 := hc2
              have HC : Hid ((∀ i : Nat, i < 30 → (N2.crash ks).read i = F.sure.getD i 0 ∨ (sto i = true ∧ (N2.crash ks).read i = last i)) ∧ (N2.crash ks).keys = []) := ⟨hC, hCk⟩
              clear hcr hC hCk
              go_wp2_with fail
              refine (crash_any L N2 kv0 ks _ hA hc2 (hks.is hb hL') hks.len).mono ?_
              rintro e w8 ⟨rfl, A8, o8⟩
              have bb8 := below_only hb o8 hb.size hL'
              have S8 := hS.only o8 sA
              have T8 := hT.only o8 lA
              have R8 := hR.only2 o8 (.inr ⟨rb, rfl, wasA⟩)
              clear hA hS hT hR hb hrel2
              generalize N2.crash ks = C at *
              go_wp2
              go_loopw [15] (fun i wr => ∃ t : Nat, t ≤ 30 ∧ i = .int .i64 t ∧ MemIs wr L C ∧ Arr wr w7.heap.size 54 (fun i => .bool (sto i)) ∧ Arr wr (w7.heap.size + 1) 55 (fun i => .int .u64 (last i)) ∧ RowIs .u64 wr (some ⟨rb, 0, none⟩) F.sure ∧ Below w.heap.size w wr) (fun i _ => 30 - (intOf i).toNat)
              case atStart => exact ⟨0, by omega, rfl, A8, S8, T8, R8, bb8⟩
              case round =>
                clear A8 S8 T8 R8 bb8
                obtain ⟨t, ht, rfl, hA, hS, hT, hR, hb⟩ := hrel
                by_cases hlt3 : t < 30
                · have hwt : (Lit.int .i64 (t : Int)).wf = true := WalkArith.wf_i64 (by omega)
                  have hti : (t : Int) < 30 := by omega
                  have cS := hS.cell t hlt3
                  have cT := hT.cell t hlt3
                  have cR : wr.cell? ⟨rb, t, none⟩ = some (.int .u64 (F.sure.getD t 0)) := by
                    rcases hR with h | ⟨b', o', e, hc⟩
                    · have := HF2.out.2; rw [h] at this; simp at this
                    · cases e
                      have := hc t (by rw [HF2.out.2]; exact hlt3)
                      rwa [Nat.zero_add] at this
                  have hread := read_any L C t _ hA hwt
                  rcases HC.out.1 t hlt3 with h1 | ⟨h1, h2⟩
                  · rw [h1] at hread
                    have HR : Hid _ := hread
                    clear hread h1
                    generalize F.sure.getD t 0 = sv at *
                    cases hs : sto t with
                    | false =>
                      rw [hs] at cS
                      go_wp2_with fail
                      refine Calls.mono (Hid.out HR) ?_
                      rintro e w9 ⟨rfl, hw⟩
                      obtain rfl := hw.symm
                      go_wp2
                      go_roundw
                      case rel => exact ⟨t + 1, by omega, by go_num, hA, hS, hT, hR, hb⟩
                      case measure => simp [intOf]; omega
                    | true =>
                      rw [hs] at cS
                      go_wp2_with fail
                      refine Calls.mono (Hid.out HR) ?_
                      rintro e w9 ⟨rfl, hw⟩
                      obtain rfl := hw.symm
                      go_wp2
                      go_roundw
                      case rel => exact ⟨t + 1, by omega, by go_num, hA, hS, hT, hR, hb⟩
                      case measure => simp [intOf]; omega
                  · rw [h2] at hread
                    have HR : Hid _ := hread
                    clear hread h2
                    rw [h1] at cS
                    generalize F.sure.getD t 0 = sv at *
                    generalize last t = lv at *
                    by_cases hsv : lv = sv
                    · subst hsv
                      go_wp2_with fail
                      refine Calls.mono (Hid.out HR) ?_
                      rintro e w9 ⟨rfl, hw⟩
                      obtain rfl := hw.symm
                      go_wp2
                      go_roundw
                      case rel => exact ⟨t + 1, by omega, by go_num, hA, hS, hT, hR, hb⟩
                      case measure => simp [intOf]; omega
                    · have hb1 : (lv == sv) = false := by simpa using hsv
                      go_wp2_with fail
                      refine Calls.mono (Hid.out HR) ?_
                      rintro e w9 ⟨rfl, hw⟩
                      obtain rfl := hw.symm
                      go_wp2
                      go_roundw
                      case rel => exact ⟨t + 1, by omega, by go_num, hA, hS, hT, hR, hb⟩
                      case measure => simp [intOf]; omega
                · obtain rfl : t = 30 := by omega
                  go_wp2_with fail
                  refine (loose_any L C _ hA hCc).mono ?_
                  rintro e w9 ⟨v9, rfl, row9, _, b9⟩
                  obtain ⟨va9, vc9, rfl, _⟩ := ownsRow_form0 row9
                  rw [HC.out.2]
                  go_wp2
                  go_ret
                  exact ⟨rfl, hb.trans (b9.mono hb.size)⟩

set_option maxRecDepth 100000 in
theorem lifted (os : Os) (started : os.Started) (H : Type) (enc : TypeId × Value → H) :
    ReturnsInHanded {} Try.checked os 5 .any (Rows.memorySureSpec.pre6 enc Try.prog Try.f5 Rows.memorySureRow.domain false) (Rows.memorySureSpec.post enc Try.prog Try.f5 false true false false) := by
  refine returnsInHanded_of_change (C := Try.checked) own started (by kernel_rfl) Try.func5
    (ChangeSpec.witness6 (enc := enc) (C := Try.checked) false ⟨#[], #[.slice none 0 0, .slice none 0 0, .slice none 0 0], []⟩ 8 (by kernel_rfl) (by kernel_rfl) (by kernel_rfl) (by kernel_rfl)) ?_
  intro W base args ds gs before hval0 hW hcnd _
  have hval : ∀ (j : Nat) t v, Try.f5.params[j]? = some t → args[j]? = some v → Value.okWide Try.prog W .any base t v := hval0
  have hW' := hW
  obtain ⟨p, q, hA0, hV, rfl, hfz, hnd⟩ := hW
  have hA : DataW.TrodAll enc Try.prog W 0 (fun _ => true) true Try.f5.params.toList args.toList ds p := hA0
  rw [Try.params5] at hA hval
  obtain ⟨v0, vs0, d0, ds0, p0, q0, hargs, rfl, rfl, h0, r0⟩ := trodAll_cons hA
  obtain ⟨v1, vs1, d1, ds1, p1, q1, rfl, rfl, rfl, h1, r1⟩ := trodAll_cons r0
  obtain ⟨v2, vs2, d2, ds2, p2, q2, rfl, rfl, rfl, h2, r2⟩ := trodAll_cons r1
  obtain ⟨rfl, rfl, rfl⟩ := trodAll_nil r2
  obtain rfl : args = #[v0, v1, v2] := by cases args; simp_all
  obtain ⟨rfl, rfl⟩ := trodVars_none hV
  obtain ⟨a0, len0, cap0, rfl⟩ := okWide_slice Try.underlying22 (hval 0 22 v0 rfl rfl)
  have k0 := h0
  have lt0 : ∀ x ∈ p0, x.block < W.heap.size := by obtain ⟨m, hm⟩ := k0; exact DataW.trod_lt m _ _ _ hm
  obtain ⟨ops0, hl0, w0⟩ := open_ops rfl h0
  subst hl0
  obtain ⟨a1, len1, cap1, rfl⟩ := okWide_slice Try.underlying22 (hval 1 22 v1 rfl rfl)
  have k1 := h1
  have lt1 : ∀ x ∈ p1, x.block < W.heap.size := by obtain ⟨m, hm⟩ := k1; exact DataW.trod_lt m _ _ _ hm
  obtain ⟨ops1, hl1, w1⟩ := open_ops rfl h1
  subst hl1
  obtain ⟨a2, len2, cap2, rfl⟩ := okWide_slice Try.underlying33 (hval 2 33 v2 rfl rfl)
  have k2 := h2
  have lt2 : ∀ x ∈ p2, x.block < W.heap.size := by obtain ⟨m, hm⟩ := k2; exact DataW.trod_lt m _ _ _ hm
  obtain ⟨ks2, w2⟩ : ∃ ks, KeepAt W (.slice a2 len2 cap2) ks := by obtain ⟨m, hm⟩ := h2; exact open_keep (n := m) hm
  clear hA0 hval0
  refine (walk a0 cap0 ops0 a1 cap1 ops1 (.slice a2 len2 cap2) ks2 W w0 w1 w2).mono fun e W' ⟨he, bel⟩ => ?_
  subst he
  exact ⟨_, rfl, _, _, _, [], _, [], hW', trodAll_mk1 (shut_bool Try.underlying4 _), (trodAll_cons_mk (Below.trod laidOut (by kernel_rfl) (of_decide_eq_true (by kernel_rfl)) k0 bel lt0) (trodAll_cons_mk (Below.trod laidOut (by kernel_rfl) (of_decide_eq_true (by kernel_rfl)) k1 bel lt1) (trodAll_cons_mk (Below.trod laidOut (by kernel_rfl) (of_decide_eq_true (by kernel_rfl)) k2 bel lt2) trodAll_mk0))), rfl, bel.frame _, fun h => by cases h⟩

theorem over : Rows.memorySureRow.holds Try.pinned (OpenSpec.ofChange Rows.memorySureSpec) :=
  OpenClaim.holds_of_wide 5 Try.f5 rfl rfl rfl rfl rfl rfl rfl ⟨rfl, rfl, rfl, rfl, rfl⟩ rfl rfl rfl rfl rfl (by kernel_rfl) Try.func5 (by kernel_rfl)
    (of_decide_eq_true (by kernel_rfl)) (by unfold Func.isWrapper; first | (rw [if_pos (by decide +kernel)]; kernel_rfl) | (rw [if_neg (by decide +kernel)]; exact ⟨rfl, rfl⟩))
    (fun os started H enc _ => lifted os started H enc)

theorem proved : Rows.MemorySureSaid := over
#print axioms proved
end Go.Proofs.Ytoabgkkfhoiagaa.memorySure
