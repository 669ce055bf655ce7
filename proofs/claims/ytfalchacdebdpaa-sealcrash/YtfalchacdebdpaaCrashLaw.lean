/- Proved: for every slice of changes, number and slice of crashes, 'SealCrash' returns true and its arguments read afterwards as before. No condition. -/
import Derived.Test.YtfalchacdebdpaaRows
import Derived.Test.YtfalchacdebdpaaMend
import Derived.Test.YtfalchacdebdpaaTwoMath
import Derived.Deep.RegionHeld3
namespace Go.Proofs.Ytfalchacdebdpaa.sealCrash
open Go.ChangeShapes Go.WideShapes Go.ChangeAt Go.RowKit Go.Shelf
set_option linter.unusedVariables false

theorem own : ownKnob Try.prog.godebug = none := by kernel_rfl
theorem laidOut : laidOutB Try.prog = true := by kernel_rfl

theorem RowIs.only {w w' : World} {G : Nat} {g : Nat → Int} {S : List Nat} (h : RowIs w G g) (ho : Only S w w') (hG : G ∉ S) : RowIs w' G g := by
  show w'.heap[G]? = _
  rw [ho.block G h.lt hG]; exact h
/-- An image that differs from the plan's only where changes may be. -/
structure Img (g : Nat → Int) : Prop where
  same : ∀ q : Nat, ¬ openI (q : Int) → g q = headN q
  wf : ∀ q : Nat, 0 ≤ g q ∧ g q ≤ 18446744073709551615
theorem Img.head : Img headN := ⟨fun _ _ => rfl, headN_wf⟩
theorem Img.set {g : Nat → Int} (h : Img g) {q : Nat} {v : Int} (hq : openI (q : Int)) (hv : 0 ≤ v ∧ v ≤ 18446744073709551615) : Img (updN g q v) := by
  refine ⟨fun p hp => ?_, fun p => ?_⟩
  · unfold updN
    have : p ≠ q := fun e => hp (by rw [e]; exact hq)
    rw [if_neg this]; exact h.same p hp
  · unfold updN; split
    · exact hv
    · exact h.wf p
theorem Img.base {g : Nat → Int} (h : Img g) : Base g := ⟨fun j hj => h.same j (by unfold openI; omega), fun s hs => by
  have l : logAt s = 296 + 248 * s := rfl
  rw [h.same _ (by unfold openI; omega)]; exact base_head.zero s hs⟩

theorem keep_one {w : World} {S : List Nat} (b : Bool) (hS : ∀ k ∈ S, k < w.heap.size) : KeepIs (w.alloc (.cells #[.bool b] 4)) S (.slice (some ⟨w.heap.size, 0, none⟩) 1 1) [b] := by
  refine ⟨_, _, rfl, .inr ⟨w.heap.size, 0, rfl, fun hm => by have := hS _ hm; omega, fun i hi => ?_⟩⟩
  rw [World.cell?_alloc_at _ _ _ _ rfl]
  match i, hi with
  | 0, _ => rfl

theorem good_of {cs : List Chg} {g0 : Nat → Int} (c : Ctx 1 5 cs g0) {ss : List Stp} {n : Nat} (hs : strip ss = (stepsP (logAt 1) 5 cs).take n) {M : Mem} (hw : Went g0 ss M) (hin : M.In) (ks : List Bool) :
    Good (decide (n < (sealingP (logAt 1) 5 cs).length)) g0 cs (M.crash ks) := by
  obtain ⟨c1, c2⟩ := crash_sure hin hw.len ks
  have hp := steps_part c hs (g := imgF (M.crash ks)) fun k hk => by
    have := c2 k hk
    rw [hw.words k hk] at this; exact this
  refine ⟨c1, ?_⟩
  rcases Nat.lt_or_ge n (sealingP (logAt 1) 5 cs).length with h1 | h1
  · rcases hp.1 h1 with h2 | h2
    · exact .inl ⟨decide_eq_true h1, h2⟩
    · exact .inr (.inl h2)
  · rcases hp.2 h1 with h2 | h2
    · exact .inr (.inl h2)
    · exact .inr (.inr h2)

/-- What the law looks at, of a memory that is mended. -/
theorem done_facts {p : Bool} {cs : List Chg} {g0 : Nat → Int} (c : Ctx 1 5 cs g0) {M : Mem} (h : Done p g0 cs M) :
    M.sure.length = 2824 ∧ (∀ k : Nat, k < 2824 → (∀ i, i < cs.length → (cs.getD i (0, 0)).1 ≠ (k : Int)) → openI (k : Int) → imgF M k = g0 k) ∧
      (madeB M cs (fun i => (cs.getD i (0, 0)).2) = true ∨ p = true ∧ madeB M cs (fun i => g0 (cs.getD i (0, 0)).1.toNat) = true) := by
  obtain ⟨hM, hs⟩ := h
  refine ⟨hM.1, fun k hk hno ho => ?_, ?_⟩
  · have hi := (openI_far (t := 1) (by decide) ho).1
    rcases hs with ⟨_, hg⟩ | hg
    · exact hg.2 k hk hi
    · rw [hg.2 k hk hi]
      refine overC_out fun d hd e => ?_
      obtain ⟨i, hi2, e2⟩ := getD_mem' hd
      exact hno i hi2 (by rw [e2]; exact e)
  · have nat : ∀ i, i < cs.length → ∃ k : Nat, (cs.getD i (0, 0)).1 = (k : Int) ∧ k < 2824 ∧ ¬ inLog 1 k := fun i hi => by
      have h1 := rightP_inside c.right _ (getD_in hi)
      refine ⟨(cs.getD i (0, 0)).1.toNat, by omega, by omega, (c.open_ (getD_in hi) (k := (cs.getD i (0, 0)).1.toNat) (by omega)).2⟩
    rcases hs with ⟨hp, hg⟩ | hg
    · right
      refine ⟨hp, madeB_yes.2 fun i hi => ?_⟩
      obtain ⟨k, e, hk, hl⟩ := nat i hi
      have e2 : ((k : Int)).toNat = k := by omega
      rw [e, e2]; exact hg.2 k hk hl
    · left
      refine madeB_yes.2 fun i hi => ?_
      obtain ⟨k, e, hk, hl⟩ := nat i hi
      have := hg.2 k hk hl
      rw [overC_in (rightP_once c.right) (getD_in hi) e] at this
      rw [e]; exact this

theorem img_at {w' : World} {M : Mem} {base : Nat} (h : w'.ownsRow base 22 1 (.slice (some ⟨base, 0, none⟩) M.sure.length M.sure.length) M.sure.length (M.image.map (Value.int .u64))) : UAt w' (some ⟨base, 0, none⟩) M.sure.length (imgF M) := by
  by_cases h0 : M.sure.length = 0
  · exact .inl h0
  · refine .inr ⟨base, 0, rfl, (World.ownsRow.lt h _ rfl).2, fun i hi => ?_⟩
    rw [Nat.zero_add, World.ownsRow.cellAt h i (by omega), List.getElem?_map, image_at M i hi]; rfl

/-- Whether one of the first j changes is of word k. -/
def Tch (cs : List Chg) (k j : Nat) (T : Bool) : Prop := T = true ↔ ∃ i, i < j ∧ (cs.getD i (0, 0)).1 = (k : Int)
theorem Tch.zero {cs : List Chg} {k : Nat} : Tch cs k 0 false := ⟨fun h => (by cases h), fun ⟨i, hi, _⟩ => absurd hi (Nat.not_lt_zero i)⟩
theorem Tch.more {cs : List Chg} {k j : Nat} (h : Tch cs k j true) : Tch cs k (j + 1) true := ⟨fun _ => by
  obtain ⟨i, hi, e⟩ := h.1 rfl
  exact ⟨i, by omega, e⟩, fun _ => rfl⟩
theorem Tch.step {cs : List Chg} {k j : Nat} (h : Tch cs k j false) : Tch cs k (j + 1) ((cs.getD j (0, 0)).1 == (k : Int)) := by
  constructor
  · intro e
    exact ⟨j, by omega, by simpa using e⟩
  · rintro ⟨i, hi, e⟩
    by_cases h2 : i = j
    · subst h2; simpa using e
    · exact absurd (h.2 ⟨i, by omega, e⟩) (by simp)
theorem Tch.no {cs : List Chg} {k j n : Nat} (h : Tch cs k j false) (hn : n ≤ j) : ∀ i, i < n → (cs.getD i (0, 0)).1 ≠ (k : Int) := fun i hi e => absurd (h.2 ⟨i, by omega, e⟩) (by simp)

theorem tmod_nat {j en Q : Nat} (h : j % en = Q) : (j : Int).tmod (en : Int) = (Q : Int) := by
  rw [Int.tmod_eq_emod_of_nonneg (Int.natCast_nonneg j), ← h]
  first | exact (Int.natCast_emod j en).symm | exact (Int.natCast_emod j en) | simp
theorem wrap_small {Q : Nat} (h : Q ≤ 10000) : wrap64 (Q : Int) = (Q : Int) := by unfold wrap64; omega
theorem getD_stp {S : List Stp} {j : Nat} (h : j < S.length) : S.getD j ⟨0, 0, 0⟩ ∈ S := by simp [h]
theorem take_succ_getD {S : List Stp} {j : Nat} (h : j < S.length) : S.take j ++ [S.getD j ⟨0, 0, 0⟩] = S.take (j + 1) := by
  rw [List.take_add_one, List.getElem?_eq_getElem h]
  simp [h]
theorem steps_real {cs : List Chg} {S : List Stp} (h : stepsP (logAt 1) 5 cs = S) {s : Stp} (hs : s ∈ S) : s.kind ≠ 4 := by
  rw [← h] at hs
  unfold stepsP sealingP at hs
  rcases List.mem_append.1 hs with h | h
  · rcases List.mem_append.1 h with h | h
    · exact sureP_real _ _ h
    · exact sureP_real _ _ h
  · have e := strip_making (logAt 1 : Int) cs
    have := List.filter_eq_self.1 e s h
    simpa using this

theorem not_wf (Y : Int) : 0 ≤ bits BinOp.xor IntKind.u64 (if IntKind.u64.signed = true then -1 else IntKind.u64.max) Y ∧ bits BinOp.xor IntKind.u64 (if IntKind.u64.signed = true then -1 else IntKind.u64.max) Y ≤ 18446744073709551615 := by
  have h := wf_bits BinOp.xor IntKind.u64 (if IntKind.u64.signed = true then -1 else IntKind.u64.max) Y
  simp [Lit.wf, IntKind.min, IntKind.max, IntKind.signed, IntKind.bits] at h
  simp [IntKind.max, IntKind.signed, IntKind.bits]
  omega

set_option maxHeartbeats 16000000 in
set_option maxRecDepth 100000 in
theorem walk (a : Option Addr) (ca : Nat) (cs : List Chg) (x : Int) (b : Option Addr) (cb : Nat) (xs : List Crs) (w : World) (hia : ChgIn w a ca cs) (_hx : -9223372036854775808 ≤ x ∧ x ≤ 9223372036854775807) (hib : CrsIn w b cb xs) :
    Calls Try.prog 5 #[.slice a cs.length ca, .int .i64 x, .slice b xs.length cb] w fun e w' => e = .returned (.bool true) ∧ Below w.heap.size w w' := by
  have HIA : Hid (ChgIn w a ca cs) := hia
  have HIB : Hid (CrsIn w b cb xs) := hib
  have HLV := lives_any
  have HIM := image13_any
  obtain ⟨cl, hcl⟩ : ∃ n, cs.length = n := ⟨_, rfl⟩
  have HCL : Hid (cs.length = cl) := hcl
  obtain ⟨xl, hxl⟩ : ∃ n, xs.length = n := ⟨_, rfl⟩
  have HXL : Hid (xs.length = xl) := hxl
  have hri := fun w h => right7_any a ca cs w h hia.ok
  obtain ⟨rp, hrp⟩ : ∃ r, rightP cs = r := ⟨_, rfl⟩
  rw [hcl, hrp] at hri
  rw [hcl, hxl]
  have HRI : Hid (∀ w, ChgsAt w a cs → Calls Try.prog 11 #[.slice a cl ca] w fun e w' => e = .returned (.int .i64 rp) ∧ Below w.heap.size w w') := hri
  have HRP : Hid (rightP cs = rp) := hrp
  clear hia hib hri hcl hxl hrp
  go_enter Try.func5, Try.ntmps5
  go_wp2_with fail
  refine (HLV _).mono ?_
  rintro e w0 ⟨rfl, b0⟩
  have HC0 : Hid (ChgsAt w0 a cs) := HIA.out.at_.later (Nat.le_refl _) b0
  have HB0 : Hid (Below w.heap.size w w0) := b0
  clear b0 HLV
  by_cases hr : rp = 0
  case neg =>
    have q1 : (rp != 0) = true := by simpa using hr
    clear hr
    go_wp2_with (first | (go_at_call 11; refine Calls.mono (Hid.out HRI _ HC0.out) ?_; rintro e w1 ⟨rfl, b1⟩) | go_in)
    go_ret
    exact ⟨rfl, HB0.out.trans (b1.mono HB0.out.size)⟩
  subst hr
  by_cases hc0 : cl = 0
  · subst hc0
    go_wp2_with (first | (go_at_call 11; refine Calls.mono (Hid.out HRI _ HC0.out) ?_; rintro e w1 ⟨rfl, b1⟩) | go_in)
    go_ret
    exact ⟨rfl, HB0.out.trans (b1.mono HB0.out.size)⟩
  have q2 : ((cl : Int) == 0) = false := by simp; omega
  have hcl120 : cl ≤ 120 := by have := (rightP_ok HRP.out).1; rw [HCL.out] at this; exact this
  go_wp2_with fail
  refine Calls.mono (Hid.out HRI _ HC0.out) ?_
  rintro e w1 ⟨rfl, b1⟩
  have b01 := HB0.out.trans (b1.mono HB0.out.size)
  go_wp2_with fail
  refine (HIM _).mono ?_
  rintro e w2 ⟨G, rfl, hrow, hG, b2⟩
  have HR2 : Hid (RowIs w2 G headN) := hrow
  have HB2 : Hid (Below w.heap.size w w2) := b01.trans (b2.mono b01.size)
  have HGW : Hid (w.heap.size ≤ G) := by show w.heap.size ≤ G; have := b01.size; omega
  have HG2 : Hid (G < w2.heap.size) := hrow.lt
  clear hrow hG b2 b01 b1 HRI HC0 HB0 HIM q2
  go_wp2
  go_loopw [8] (fun i wr => ∃ (k : Nat) (g : Nat → Int), k ≤ cl ∧ i = .int .i64 k ∧ Hid (RowIs wr G g) ∧ Hid (Img g) ∧ Hid (Below w.heap.size w wr) ∧ Hid (wr.heap.size = w2.heap.size)) (fun i _ => cl - (intOf i).toNat)
  case atStart => exact ⟨0, headN, Nat.zero_le _, rfl, HR2.out, Img.head, HB2.out, rfl⟩
  case round =>
    obtain ⟨k, g, hk, rfl, hrow, himg, hb, hsz⟩ := hrel
    by_cases hlt : k < cl
    · obtain ⟨ba, o, rfl, hba, hca⟩ := HIA.out.at_.resolve_left (fun e => by have := HCL.out; rw [e] at this; simp at this; omega)
      have hkn : (k : Int) < (cl : Int) := by omega
      have x1 := (hb.out.cell (p := ⟨ba, o + k * 2, none⟩) hba).trans (hca k (by rw [HCL.out]; exact hlt)).1
      have x2 := (hb.out.cell (p := ⟨ba, o + k * 2 + 1, none⟩) hba).trans (hca k (by rw [HCL.out]; exact hlt)).2
      have hwf2 := (HIA.out.ok k (by rw [HCL.out]; exact hlt)).2
      have hop := okP_open (rightP_ok HRP.out).2 _ (getD_in (cs := cs) (i := k) (by rw [HCL.out]; exact hlt))
      have hX : ∃ X : Nat, (cs.getD k (0, 0)).1 = (X : Int) := ⟨(cs.getD k (0, 0)).1.toNat, by unfold openI at hop; omega⟩
      obtain ⟨X, hX⟩ := hX
      obtain ⟨Y, hY⟩ : ∃ Y, (cs.getD k (0, 0)).2 = Y := ⟨_, rfl⟩
      rw [hX] at x1 hop
      rw [hY] at x2 hwf2
      have HOP : Hid (openI (X : Int)) := hop
      have hXn : (X : Int) < ((2824 : Nat) : Int) := by have := HOP.out; unfold openI at this; omega
      have hXn2 : (X : Int) < 2824 := by omega
      have hYb : 0 ≤ Y ∧ Y ≤ 18446744073709551615 := by
        simp [Lit.wf, IntKind.min, IntKind.max, IntKind.signed, IntKind.bits] at hwf2
        omega
      obtain ⟨hY0, hY1⟩ := hYb
      have c3 := hrow.out.cell X (by omega)
      have f3 := hrow.out.frozen X
      obtain ⟨Z, hZ⟩ : ∃ Z, g X = Z := ⟨_, rfl⟩
      rw [hZ] at c3
      have hne : ¬ ba = G := fun e => by have := HGW.out; omega
      have hne2 : ¬ G = ba := fun e => hne e.symm
      clear hca hX hY hop hwf2 hZ
      go_wp2
      go_region_held3 (fun v : World => v.cell? ⟨ba, o + k * 2, none⟩ = some (.int .i64 X) ∧ v.cell? ⟨ba, o + k * 2 + 1, none⟩ = some (.int .u64 Y)) (go_keep) (first | go_keep | fail)
      have HCW := not_wf Y
      obtain ⟨C, hC⟩ : ∃ C, bits BinOp.xor IntKind.u64 (if IntKind.u64.signed = true then -1 else IntKind.u64.max) Y = C := ⟨_, rfl⟩
      rw [hC] at HCW
      try rw [hC]
      have hrow2 : Hid (RowIs (wr.setCell ⟨G, X, none⟩ (.int .u64 C)).drew G (updN g X C)) := hrow.out.set X C
      have himg2 : Hid (Img (updN g X C)) := himg.out.set HOP.out HCW
      have hb2 : Hid (Below w.heap.size w (wr.setCell ⟨G, X, none⟩ (.int .u64 C)).drew) := (hb.out.setCell HGW.out _).drew
      have hsz2 : Hid ((wr.setCell ⟨G, X, none⟩ (.int .u64 C)).drew.heap.size = w2.heap.size) := by
        show (wr.setCell ⟨G, X, none⟩ (.int .u64 C)).heap.size = _
        rw [World.size_setCell]; exact hsz.out
      clear hC hrow himg hb hsz HCW x1 x2 c3 f3
      rename_i hHeld
      clear hHeld
      go_wp2
      go_roundw
      case rel => exact ⟨k + 1, updN g X C, by omega, by go_num, hrow2, himg2, hb2, hsz2⟩
      case measure => simp [intOf]; omega
    · obtain rfl : cl = k := by omega
      have HIMG : Hid (Img g) := himg
      have HRW : Hid (RowIs wr G g) := hrow
      have HBASE : Hid (Base g) := himg.out.base
      have HCTX : Hid (Ctx 1 5 cs g) := ⟨by decide, by decide, HRP.out, himg.out.base.zero 1 (by decide)⟩
      have HBW : Hid (Below w.heap.size w wr) := hb
      clear himg hrow hb hlt hk
      go_wp2_with fail
      refine (load_img G g _ HRW.out (fun i _ => HIMG.out.wf i)).mono ?_
      rintro e w3 ⟨L, rfl, hm, hL, b3⟩
      have HM3 : Hid (MemIs w3 L (fresh (imgL g))) := hm
      have HB3 : Hid (Below w.heap.size w w3) := HBW.out.trans (b3.mono HBW.out.size)
      have HL : Hid (∀ k ∈ L.blocks, w.heap.size ≤ k) := fun k hk => by have := hL k hk; have := HBW.out.size; omega
      have HALL : Hid (∀ k ∈ L.blocks, k < w3.heap.size) := hm.all_lt
      have HGL : Hid (G ∉ L.blocks) := fun hmem => by have := hL G hmem; have := HRW.out.lt; omega
      have HR3 : Hid (RowIs w3 G g) := HRW.out.later (Nat.le_refl _) b3
      have hne : cs ≠ [] := fun e => by have := HCL.out; rw [e] at this; simp at this; omega
      have hst := steps_good 1 5 a ca cs w3 (HIA.out.at_.later (Nat.le_refl _) HB3.out) HIA.out.ok (by decide) (by decide) (by decide) HRP.out hne
      rw [HCL.out] at hst
      have e : (296 + 248 * (1 : Int)) = ((logAt 1 : Nat) : Int) := by
        have : logAt 1 = 296 + 248 * 1 := rfl
        omega
      rw [e] at hst
      clear e
      obtain ⟨S, hS⟩ : ∃ S, stepsP (logAt 1) 5 cs = S := ⟨_, rfl⟩
      obtain ⟨n, hn⟩ : ∃ n, (sealingP (logAt 1) 5 cs).length = n := ⟨_, rfl⟩
      rw [hS, hn] at hst
      have HS : Hid (stepsP (logAt 1) 5 cs = S) := hS
      have HNN : Hid ((sealingP (logAt 1) 5 cs).length = n) := hn
      have HSF : Hid (StpsFit S) := by rw [← hS]; exact steps_fit HCTX.out (by decide) HIA.out.ok
      have hsl : S.length ≤ 10000 := by
        have h1 := making_len (HCTX.out.ok HIA.out.ok)
        have h2 := sureP_len (notesP (logAt 1) cs)
        have h3 := sureP_len [((logAt 1 : Int), (5 : Int))]
        have h4 := notesTo_len (logAt 1) cs cs.length
        have h5 := (rightP_ok HRP.out).1
        have h6 : (notesP (logAt 1 : Int) cs).length = 1 + cs.length * 2 := h4
        have h7 : (makingP (logAt 1 : Int) cs).length ≤ 829 := h1
        rw [← hS]
        unfold stepsP sealingP
        rw [List.length_append, List.length_append]
        simp only [List.length_cons, List.length_nil] at h3
        omega
      have hnl : n ≤ 10000 := by
        have h1 : (sealingP (logAt 1 : Int) 5 cs).length ≤ (stepsP (logAt 1 : Int) 5 cs).length := by unfold stepsP; rw [List.length_append]; omega
        rw [hS, hn] at h1; omega
      have HST : Hid (Calls Try.prog 9 #[.int .i64 1, .int .u64 5, .slice a cl ca] w3 fun e w' => ∃ v, e = .returned (.tuple #[v, .int .i64 n, .int .i64 0]) ∧ OwnStps w' w3.heap.size v S ∧ Below w3.heap.size w3 w') := hst
      clear hm hL b3 hne hst hS hn HRW HBW
      go_wp2_with fail
      refine Calls.mono (Hid.out HST) ?_
      rintro e w4 ⟨v, rfl, hos, b4⟩
      obtain ⟨va, vc, rfl, hva⟩ := ownsRow_formK hos
      obtain ⟨sn, hsn⟩ : ∃ n, S.length = n := ⟨_, rfl⟩
      have HSN : Hid (S.length = sn) := hsn
      rw [hsn] at hva hsl ⊢
      have HO4 : Hid (OwnStps w4 w3.heap.size (.slice va sn vc) S) := by have := hos; rw [hsn] at this; exact this
      have HB4 : Hid (Below w.heap.size w w4) := HB3.out.trans (b4.mono HB3.out.size)
      have HR4 : Hid (RowIs w4 G g) := HR3.out.later (Nat.le_refl _) b4
      have HM4 : Hid (MemIs w4 L (fresh (imgL g))) := HM3.out.below b4 HALL.out
      obtain ⟨m0, hm0⟩ : ∃ m, fresh (imgL g) = m := ⟨_, rfl⟩
      have HW0 : Hid (Went g [] m0) := by rw [← hm0]; exact Went.of (fresh_sure g) rfl
      have HC0 : Hid (m0.calls = 0) := by rw [← hm0]; rfl
      rw [hm0] at HM4
      obtain ⟨T, hT⟩ : ∃ T : Nat, T = sn + 1 := ⟨_, rfl⟩
      obtain ⟨K, q1, q2, q3⟩ := rem_form x T (by omega) (by omega)
      have hw1 : wrap64 ((sn : Int) + 1) = (T : Int) := by unfold wrap64; omega
      have hw3 : IntKind.u64.wrap (T : Int) = (T : Int) := by rw [IntKind.wrap_u64]; omega
      have hw4 : ¬ (T : Int) = 0 := by omega
      have hw5 : ((sn : Int) + 1) = (T : Int) := by omega
      have HTS : Hid (T = sn + 1) := hT
      clear hos b4 hsn hm0 HST HM3 HR3 HB3 hT
      go_wp2
      have HRN : Hid (OwnStps w4 w3.heap.size (.slice va sn vc) S) := HO4.out
      have HALL4 : Hid (∀ k ∈ L.blocks, k < w3.heap.size) := HALL.out
      go_loopw [14, 15] (fun i _ wr => ∃ (j : Nat) (ss : List Stp) (Mj : Mem), j ≤ K ∧ i = .int .i64 j ∧ Hid (strip ss = S.take j) ∧ Hid (Went g ss Mj) ∧ Hid (MemIs wr L Mj) ∧ Hid (OwnStps wr w3.heap.size (.slice va sn vc) S) ∧ Hid (RowIs wr G g) ∧ Hid (Below w.heap.size w wr) ∧ Hid (Mj.calls ≤ j)) (fun i _ _ => K - (intOf i).toNat)
      case atStart => exact ⟨0, [], m0, Nat.zero_le _, rfl, by simp [strip, Hid], HW0.out, HM4.out, HO4.out, HR4.out, HB4.out, (by show m0.calls ≤ 0; rw [HC0.out]; exact Nat.le_refl 0)⟩
      case round =>
        obtain ⟨j, ss, Mj, hj, rfl, hss, hwt, hm, hos, hrw, hb, hcj⟩ := hrel
        by_cases hlt : j < K
        · rcases hva with h0 | ⟨gg, rfl, hgg⟩
          · have := HTS.out; omega
          have hjn : (j : Int) < (sn : Int) := by have := HTS.out; omega
          have hjk : (j : Int) < (K : Int) := by omega
          have hjl : j < S.length := by have := HSN.out; omega
          have hos' : OwnStps wr w3.heap.size (.slice (some ⟨gg, 0, none⟩) S.length vc) S := by rw [HSN.out]; exact hos.out
          obtain ⟨y0, y1, y2⟩ := stp_at hos' j hjl
          have hfj := HSF.out _ (getD_stp hjl)
          obtain ⟨ha, hwn⟩ := hwt.out.step hfj.2
          have hcc := hcj.out
          have hac := act_calls Mj (S.getD j ⟨0, 0, 0⟩)
          have hdo := do_any L Mj (S.getD j ⟨0, 0, 0⟩) wr hm.out (by have := HTS.out; omega) hfj.1
          rw [ha] at hdo
          have hreal : (S.getD j ⟨0, 0, 0⟩).kind ≠ 4 := steps_real HS.out (getD_stp hjl)
          have hss2 : strip (ss ++ [S.getD j ⟨0, 0, 0⟩]) = S.take (j + 1) := by
            rw [strip_snoc hss.out hreal, take_succ_getD hjl]
          have HSS : Hid _ := hss2
          have HWN : Hid _ := hwn
          obtain ⟨s, hs⟩ : ∃ s, S.getD j ⟨0, 0, 0⟩ = s := ⟨_, rfl⟩
          rw [hs] at y0 y1 y2 hdo HSS HWN hac
          obtain ⟨KK, A, V⟩ := s
          obtain ⟨s2, hs2⟩ : ∃ r, ss ++ [(⟨KK, A, V⟩ : Stp)] = r := ⟨_, rfl⟩
          obtain ⟨act, hact⟩ : ∃ r, Mj.act ⟨KK, A, V⟩ = r := ⟨_, rfl⟩
          rw [hs2] at HSS HWN
          rw [hact] at hdo HWN hac
          have HDO : Hid (Calls Try.prog 21 #[.pointer (some ⟨L.mb, 0, none⟩), .agg #[.int .i64 KK, .int .i64 A, .int .u64 V]] wr fun e w' => e = .returned (.int .i64 0) ∧ MemIs w' L act ∧ Only L.blocks wr w') := hdo
          have HSS2 : Hid (strip s2 = S.take (j + 1)) := HSS.out
          have HWN2 : Hid (Went g s2 act) := HWN.out
          have HAC : Hid (act.calls ≤ j + 1) := by show act.calls ≤ j + 1; omega
          clear hdo hs hs2 hact hos' ha hcj hcc hac hreal hss2 hwn hfj HSS HWN hss hwt
          go_wp2_with fail
          refine Calls.mono (Hid.out HDO) ?_
          rintro e w5 ⟨rfl, hm5, ho5⟩
          have HM5 : Hid (MemIs w5 L act) := hm5
          have HO5 : Hid (OwnStps w5 w3.heap.size (.slice (some ⟨gg, 0, none⟩) sn vc) S) := hos.out.only ho5 HALL.out
          have HR5 : Hid (RowIs w5 G g) := RowIs.only (g := g) hrw.out ho5 HGL.out
          have HB5 : Hid (Below w.heap.size w w5) := hb.out.trans (ho5.below hb.out.size HL.out)
          clear hm5 ho5 hm hos hrw hb HDO y0 y1 y2
          go_wp2
          go_loopw [15] (fun e wr => ∃ (q : Nat) (s3 : List Stp) (M3 : Mem), e = .int .i64 q ∧ q ≤ 5 ∧ q ≤ xl ∧ Hid (strip s3 = S.take (j + 1)) ∧ Hid (Went g s3 M3) ∧ Hid (MemIs wr L M3) ∧ Hid (OwnStps wr w3.heap.size (.slice (some ⟨gg, 0, none⟩) sn vc) S) ∧ Hid (RowIs wr G g) ∧ Hid (Below w.heap.size w wr) ∧ Hid (M3.calls ≤ j + 1)) (fun e _ => 5 - (intOf e).toNat)
          case atStart => exact ⟨0, s2, act, rfl, by omega, Nat.zero_le _, HSS2.out, HWN2.out, HM5.out, HO5.out, HR5.out, HB5.out, HAC.out⟩
          case round =>
            obtain ⟨q, s3, M3, rfl, hq5, hqx, hs3, hw3, hm3, hos3, hr3, hb3, hc3⟩ := hrel
            by_cases hqx2 : q < xl
            · by_cases hq52 : q < 5
              · obtain ⟨bb, o, rfl, hbb, hcr⟩ := HIB.out.at_.resolve_left (fun e => by have := HXL.out; rw [e] at this; simp at this; omega)
                have hqn : (q : Int) < (xl : Int) := by omega
                have hqn5 : (q : Int) < 5 := by omega
                obtain ⟨kv, ev, c0, c1, c2, hk, he⟩ := hcr q (by rw [HXL.out]; exact hqx2)
                obtain ⟨lst, hlst⟩ : ∃ l, (xs.getD q noCrs).ev = l := ⟨_, rfl⟩
                rw [hlst] at he
                obtain ⟨ea, ec, rfl, hen, he1⟩ := he
                obtain ⟨en, henn⟩ : ∃ n, lst.length = n := ⟨_, rfl⟩
                rw [henn] at hen c2 he1
                have x2 := (hb3.out.cell (p := ⟨bb, o + q * 3 + 2, none⟩) hbb).trans c2
                by_cases hen0 : en = 0
                · subst hen0
                  clear hcr c0 c1 c2 hk he1 hlst
                  go_wp2
                  go_roundw
                  case rel => exact ⟨q + 1, s3, M3, by go_num, by omega, by omega, hs3.out, hw3.out, hm3.out, hos3.out, hr3.out, hb3.out, hc3.out⟩
                  case measure => simp [intOf]; omega
                · obtain ⟨kb, ko, rfl, hkb, hek⟩ := he1.resolve_left (fun e => by rw [e] at henn; simp at henn; omega)
                  obtain ⟨Q, hQ⟩ : ∃ Q, j % en = Q := ⟨_, rfl⟩
                  have hQl : Q < en := by rw [← hQ]; exact Nat.mod_lt _ (by omega)
                  have r3 : (Q : Int) < (en : Int) := Int.ofNat_lt.2 hQl
                  have r5 : ¬ (en : Int) = 0 := fun h => hen0 (Int.ofNat.inj h)
                  have r4 : (0 : Int) < (en : Int) := Int.ofNat_lt.2 (Nat.pos_of_ne_zero hen0)
                  have r1 : (j : Int).tmod (en : Int) = (Q : Int) := tmod_nat hQ
                  have r2 : wrap64 ((j : Int).tmod (en : Int)) = (Q : Int) := by
                    have hjb : j ≤ 10000 := by clear r1 r3 r4 r5 hen; omega
                    have hQj : Q ≤ j := by rw [← hQ]; exact Nat.mod_le _ _
                    rw [r1]; exact wrap_small (by clear r1 r3 r4 r5 hen; omega)
                  obtain ⟨d1, d2⟩ := hek Q hQl
                  obtain ⟨E, hE⟩ : ∃ E, lst.getD Q 0 = E := ⟨_, rfl⟩
                  rw [hE] at d1 d2
                  have x3 := (hb3.out.cell (p := ⟨kb, ko + Q, none⟩) hkb).trans d1
                  have HZ : Hid (∀ w', Below w.heap.size w w' → w'.cell? ⟨bb, o + q * 3 + 2, none⟩ = some (.slice (some ⟨kb, ko, none⟩) en ec) ∧ w'.cell? ⟨kb, ko + Q, none⟩ = some (.int .i64 E)) := fun w' h' => ⟨(h'.cell (p := ⟨bb, o + q * 3 + 2, none⟩) hbb).trans c2, (h'.cell (p := ⟨kb, ko + Q, none⟩) hkb).trans d1⟩
                  have HEV : Hid (∀ v, MemIs v L M3 → Calls Try.prog 22 #[.pointer (some ⟨L.mb, 0, none⟩), .int .i64 E] v fun e w' => e = .returned (.tuple #[]) ∧ MemIs w' L (M3.evict E) ∧ Only L.blocks v w') := fun v h => evict_any L M3 E v h d2
                  have HWE : Hid (Went g (s3 ++ [evStp E]) (M3.evict E)) := hw3.out.evict hm3.out.looseIn E
                  have HSE : Hid (strip (s3 ++ [evStp E]) = S.take (j + 1)) := strip_ev hs3.out E
                  have HCE : Hid ((M3.evict E).calls ≤ j + 1) := by show (M3.evict E).calls ≤ j + 1; rw [(evict_stops M3 E).2]; exact hc3.out
                  clear hcr c0 c1 c2 hk hlst d1 d2 hek hE hQ
                  go_wp2
                  go_region_held3 (fun v : World => v.cell? ⟨bb, o + q * 3 + 2, none⟩ = some (.slice (some ⟨kb, ko, none⟩) en ec) ∧ v.cell? ⟨kb, ko + Q, none⟩ = some (.int .i64 E)) (go_keep)
                    (first
                      | (go_at_call 22; refine Calls.mono (Hid.out HEV _ (by first | exact hm3.out | exact MemIs.below hm3.out (Below.drew (Below.refl _ _)) hm3.out.all_lt)) ?_; rintro e w6 ⟨rfl, hm6, ho6⟩; have hb6 : Below w.heap.size w w6 := (by first | exact hb3.out.trans (ho6.below hb3.out.size HL.out) | exact hb3.out.drew.trans (ho6.below hb3.out.drew.size HL.out)); obtain ⟨z1, z2⟩ := HZ.out w6 hb6)
                      | go_keep)
                  have HM6 : Hid (MemIs w6 L (M3.evict E)) := hm6
                  have HO6 : Hid (OwnStps w6 w3.heap.size (.slice (some ⟨gg, 0, none⟩) sn vc) S) := OwnStps.only (w := wr.drew) (World.ownsRow.drew hos3.out) ho6 HALL.out
                  have HR6 : Hid (RowIs w6 G g) := RowIs.only (w := wr.drew) (g := g) hr3.out ho6 HGL.out
                  have HB6 : Hid (Below w.heap.size w w6) := hb6
                  clear hm6 ho6 hb6 z1 z2 hos3 hr3 hb3 hm3 x2 x3 HZ HEV hw3 hs3 hc3
                  go_wp2
                  go_roundw
                  case rel => exact ⟨q + 1, s3 ++ [evStp E], M3.evict E, by go_num, by omega, by omega, HSE.out, HWE.out, HM6.out, HO6.out, HR6.out, HB6.out, HCE.out⟩
                  case measure => simp [intOf]; omega
              · have e1 : (q : Int) < (xl : Int) := by omega
                have e2 : ¬ ((q : Int) < 5) := by omega
                go_wp2
                go_roundw
                case rel => exact ⟨j + 1, s3, M3, by omega, by go_num, hs3.out, hw3.out, hm3.out, hos3.out, hr3.out, hb3.out, hc3.out⟩
                case measure => simp [intOf]; omega
            · have e1 : ¬ ((q : Int) < (xl : Int)) := by omega
              go_wp2
              go_roundw
              case rel => exact ⟨j + 1, s3, M3, by omega, by go_num, hs3.out, hw3.out, hm3.out, hos3.out, hr3.out, hb3.out, hc3.out⟩
              case measure => simp [intOf]; omega
        · obtain rfl : K = j := by omega
          obtain ⟨P, hP⟩ : ∃ p, decide (K < n) = p := ⟨_, rfl⟩
          have HP : Hid (decide (K < n) = P) := hP
          have HGD : Hid (∀ ks, Good P g cs (Mj.crash ks)) := fun ks => by
            have := good_of HCTX.out (n := K) (by rw [HS.out]; exact hss.out) hwt.out hm.out.looseIn ks
            rw [HNN.out, hP] at this; exact this
          have HMJ : Hid (MemIs wr L Mj) := hm.out
          have HRJ : Hid (RowIs wr G g) := hrw.out
          have HBJ : Hid (Below w.heap.size w wr) := hb.out
          have hcl2 : Mj.calls ≤ 10000 := by have := hcj.out; have := HTS.out; omega
          obtain ⟨m2, hm2⟩ : ∃ m, x.tmod 2 = m := ⟨_, rfl⟩
          obtain ⟨bq, hbq⟩ : ∃ q, (m2 == 0) = q := ⟨_, rfl⟩
          have hm3 : wrap64 (x.tmod 2) = m2 := by
            rw [hm2]
            have h1 := Int.tmod_lt_of_pos x (show (0 : Int) < 2 by decide)
            have h2 := Int.lt_tmod_of_pos x (show (0 : Int) < 2 by decide)
            unfold wrap64; omega
          clear hP hss hwt hm hos hrw hb hcj hlt hj
          by_cases hxl : xl = 0
          · subst hxl
            go_wp2_with fail
            have hcr := crash_any L Mj _ [bq] _ (HMJ.out.alloc (.cells #[.bool bq] 4)) (by omega) (keep_one bq HMJ.out.all_lt) (by simp)
            refine Calls.mono hcr ?_
            rintro e w5 ⟨rfl, hm5, ho5⟩
            have HM5 : Hid (MemIs w5 L (Mj.crash [bq])) := hm5
            have HB5 : Hid (Below w.heap.size w w5) := (HBJ.out.alloc HBJ.out.size _).trans (ho5.below (by have := HBJ.out.size; simp; omega) HL.out)
            have HR5 : Hid (RowIs w5 G g) := RowIs.only (g := g) (w := wr.alloc (.cells #[.bool bq] 4)) (HRJ.out.later (Nat.le_refl _) ((Below.refl _ _).alloc (Nat.le_refl _) _)) ho5 HGL.out
            clear hcr hm5 ho5 hbq hm2 hm3
            have hmd := mend_any P g cs HCTX.out HBASE.out HIA.out.ok L (Mj.crash [bq]) w b cb xs w5 HIB.out HM5.out (HGD.out [bq]) rfl (by show Mj.calls ≤ 100000; omega) HB5.out HL.out
            rw [HXL.out] at hmd
            have HMD : Hid (Calls Try.prog 24 #[.pointer (some ⟨L.mb, 0, none⟩),   .slice b 0 cb] w5 fun e w' => e = .returned (.bool true) ∧ ∃ M', MemIs w' L M' ∧ Done P g cs M' ∧ Only L.blocks w5 w') := hmd
            clear hmd HM5 HGD HMJ HRJ HBJ
            go_wp2_with fail
            refine Calls.mono (Hid.out HMD) ?_
            rintro e w6 ⟨rfl, M', hm6, hd6, ho6⟩
            have HB6 : Hid (Below w.heap.size w w6) := HB5.out.trans (ho6.below HB5.out.size HL.out)
            have HR6 : Hid (RowIs w6 G g) := RowIs.only (g := g) HR5.out ho6 HGL.out
            have HM6 : Hid (MemIs w6 L M') := hm6
            obtain ⟨hlen, himg6, hmade⟩ := done_facts HCTX.out hd6
            have HF6 : Hid (∀ k : Nat, k < 2824 → (∀ i, i < cs.length → (cs.getD i (0, 0)).1 ≠ (k : Int)) → openI (k : Int) → imgF M' k = g k) := himg6
            obtain ⟨B1, hB1⟩ : ∃ r, madeB M' cs (fun i => (cs.getD i (0, 0)).2) = r := ⟨_, rfl⟩
            obtain ⟨B2, hB2⟩ : ∃ r, madeB M' cs (fun i => g (cs.getD i (0, 0)).1.toNat) = r := ⟨_, rfl⟩
            rw [hB1, hB2] at hmade
            have HB1 : Hid _ := hB1
            have HB2' : Hid _ := hB2
            have HMADE : Hid (B1 = true ∨ P = true ∧ B2 = true) := hmade
            have him := image_any L M' w6 hm6
            obtain ⟨n6, hn6⟩ : ∃ n, M'.sure.length = n := ⟨_, rfl⟩
            have HN6 : Hid (n6 = 2824) := hn6.symm.trans hlen
            have hu := fun w' h => img_at (w' := w') (M := M') (base := w6.heap.size) h
            rw [hn6] at him hu
            have HU : Hid _ := hu
            have HIM : Hid (Calls Try.prog 19 #[.pointer (some ⟨L.mb, 0, none⟩)] w6 fun e w' => e = .returned (.slice (some ⟨w6.heap.size, 0, none⟩) n6 n6) ∧ w'.ownsRow w6.heap.size 22 1 (.slice (some ⟨w6.heap.size, 0, none⟩) n6 n6) n6 (M'.image.map (Value.int .u64)) ∧ Below w6.heap.size w6 w') := him
            clear hm6 hd6 ho6 hlen himg6 hB1 hB2 hmade him hn6 hu HMD HB5 HR5
            go_wp2_with fail
            refine Calls.mono (Hid.out HIM) ?_
            rintro e w7 ⟨rfl, hrow7, b7⟩
            obtain ⟨GI, hGI⟩ : ∃ n, w6.heap.size = n := ⟨_, rfl⟩
            have hu7 := HU.out w7 hrow7
            have HB7 : Hid (Below w.heap.size w w7) := HB6.out.trans (b7.mono HB6.out.size)
            have HR7 : Hid (RowIs w7 G g) := HR6.out.later (Nat.le_refl _) b7
            have HM7 : Hid (MemIs w7 L M') := HM6.out.below b7 HM6.out.all_lt
            have HC7 : Hid (ChgsAt w7 a cs) := HIA.out.at_.later (Nat.le_refl _) HB7.out
            rw [hGI] at hu7 ⊢
            have HU7 : Hid (∀ k : Nat, k < n6 → w7.cell? ⟨GI, k, none⟩ = some (.int .u64 (imgF M' k))) := fun k hk => by
              obtain ⟨b, o, e, hb, hc⟩ := hu7.resolve_left (by omega)
              cases e
              have := hc k hk
              rwa [Nat.zero_add] at this
            have HMT : Hid (∀ m, Calls Try.prog 26 #[.pointer (some ⟨L.mb, 0, none⟩), .slice (some ⟨G, 0, none⟩) 2824 2824, .slice a cl ca, .bool true] (w7.drewN m) fun e w' => e = .returned (.bool B1) ∧ w' = w7.drewN m) := fun m => by
              have := made_any L M' G g (.slice (some ⟨G, 0, none⟩) 2824 2824) true a ca cs (fun i => (cs.getD i (0, 0)).2) (w7.drewN m) (HM7.out.below (below_drewN (Below.refl _ _) m) HM7.out.all_lt) (HC7.out.later (Nat.le_refl _) (below_drewN (Below.refl _ _) m)) HIA.out.ok (by rw [HCL.out]; omega) (.inl ⟨rfl, fun _ _ => rfl⟩)
              rw [HB1.out, HCL.out] at this; exact this
            have HMF : Hid (∀ m, Calls Try.prog 26 #[.pointer (some ⟨L.mb, 0, none⟩), .slice (some ⟨G, 0, none⟩) 2824 2824, .slice a cl ca, .bool false] (w7.drewN m) fun e w' => e = .returned (.bool B2) ∧ w' = w7.drewN m) := fun m => by
              have := made_any L M' G g (.slice (some ⟨G, 0, none⟩) 2824 2824) false a ca cs (fun i => g (cs.getD i (0, 0)).1.toNat) (w7.drewN m) (HM7.out.below (below_drewN (Below.refl _ _) m) HM7.out.all_lt) (HC7.out.later (Nat.le_refl _) (below_drewN (Below.refl _ _) m)) HIA.out.ok (by rw [HCL.out]; omega) (.inr ⟨rfl, rfl, HR7.out.later (Nat.le_refl _) (below_drewN (Below.refl _ _) m), fun i hi => by
                have h1 := rightP_inside HRP.out _ (getD_in hi)
                exact ⟨by omega, by omega, rfl⟩⟩)
              rw [HB2'.out, HCL.out] at this; exact this
            have HMG : Hid (∀ bb m, Calls Try.prog 26 #[.pointer (some ⟨L.mb, 0, none⟩), .slice (some ⟨G, 0, none⟩) 2824 2824, .slice a cl ca, .bool bb] (w7.drewN m) fun e w' => e = .returned (.bool (cond bb B1 B2)) ∧ w' = w7.drewN m) := fun bb m => by
              cases bb
              · exact HMF.out m
              · exact HMT.out m
            clear HMT HMF
            clear hrow7 b7 hGI hu7 HU HIM HB6 HR6 HM6
            go_wp2
            go_loopw [18, 19, 20] (fun i _ _ wr => ∃ k m : Nat, k ≤ n6 ∧ i = .int .i64 k ∧ wr = w7.drewN m) (fun i _ _ _ => n6 - (intOf i).toNat)
            case atStart => exact ⟨0, 0, Nat.zero_le _, rfl, rfl⟩
            case round =>
              obtain ⟨k, m, hk, rfl, rfl⟩ := hrel
              by_cases hkn : k < n6
              · have hkn2 : (k : Int) < (n6 : Int) := Int.ofNat_lt.2 hkn
                have HK : Hid (k < 2824) := by have := HN6.out; show k < 2824; omega
                have hk3 : k < 3000 := by have := HK.out; omega
                go_wp2
                go_loopw [19, 20] (fun t i wr => ∃ (j m2 : Nat) (T : Bool), j ≤ cl ∧ i = .int .i64 j ∧ t = .bool T ∧ wr = w7.drewN m2 ∧ Hid (Tch cs k j T)) (fun _ i _ => cl - (intOf i).toNat)
                case atStart => exact ⟨0, m, false, Nat.zero_le _, rfl, rfl, rfl, Tch.zero⟩
                case round =>
                  obtain ⟨j, m2, T, hj, rfl, rfl, rfl, hT⟩ := hrel
                  by_cases hjc : j < cl
                  · have hjc2 : (j : Int) < (cl : Int) := Int.ofNat_lt.2 hjc
                    cases T with
                    | true =>
                      go_wp2
                      go_roundw
                      case rel => exact ⟨j + 1, _, true, by omega, by go_num, rfl, by first | rfl | exact World.drewN_drewN .., Tch.more hT.out⟩
                      case measure => first | (simp only [intOf]; omega) | (simp [intOf]; omega)
                    | false =>
                      obtain ⟨ba, oa, rfl, hba, hca⟩ := HC7.out.resolve_left (fun e => by have := HCL.out; rw [e] at this; simp at this; omega)
                      have x1 := (hca j (by rw [HCL.out]; exact hjc)).1
                      have HTS : Hid (Tch cs k (j + 1) ((cs.getD j (0, 0)).1 == (k : Int))) := Tch.step hT.out
                      obtain ⟨X, hX⟩ : ∃ X, (cs.getD j (0, 0)).1 = X := ⟨_, rfl⟩
                      rw [hX] at x1 HTS
                      obtain ⟨T2, hT2⟩ : ∃ t, (X == (k : Int)) = t := ⟨_, rfl⟩
                      rw [hT2] at HTS
                      clear hca hX
                      go_wp2
                      go_roundw
                      case rel => exact ⟨j + 1, _, T2, by omega, by go_num, rfl, by first | rfl | exact World.drewN_drewN .., HTS.out⟩
                      case measure => first | (simp only [intOf]; omega) | (simp [intOf]; omega)
                  · have hjc2 : ¬ (j : Int) < (cl : Int) := fun h => hjc (Int.ofNat_lt.1 h)
                    cases T with
                    | true =>
                      clear hjc hT
                      go_wp2
                      go_quiet (fail)
                      go_wp2
                      go_roundw
                      case rel => exact ⟨k + 1, _, by omega, by go_num, by first | rfl | exact World.drewN_drewN ..⟩
                      case measure => first | (simp only [intOf]; omega) | (simp [intOf]; omega)
                    | false =>
                      have hno : ∀ i, i < cs.length → (cs.getD i (0, 0)).1 ≠ (k : Int) := Tch.no (j := j) hT.out (by rw [HCL.out]; exact Nat.le_of_not_lt hjc)
                      have HOP : Hid (∀ w, Calls Try.prog 25 #[.int .i64 k] w fun e w' => e = .returned (.bool (openB (k : Int))) ∧ w' = w) := fun w => refOpen_any k w
                      have HEQ : Hid (openB (k : Int) = true → imgF M' k = g k) := fun h => HF6.out k HK.out hno ((openB_iff _).1 h)
                      obtain ⟨ob, hob⟩ : ∃ o, openB (k : Int) = o := ⟨_, rfl⟩
                      rw [hob] at HOP HEQ
                      clear hno hob hjc hT
                      cases ob with
                      | true =>
                        have x1 := HU7.out k hkn
                        have x2 := HR7.out.cell k HK.out
                        rw [HEQ.out rfl] at x1
                        obtain ⟨Y, hY⟩ : ∃ y, g k = y := ⟨_, rfl⟩
                        rw [hY] at x1 x2
                        have hk28 : (k : Int) < 2824 := by have := HK.out; omega
                        have f1 : (Y != Y) = false := by simp
                        clear hY HEQ
                        go_wp2
                        go_quiet (first | (go_at_call 25; refine (Hid.out HOP _).mono fun _ _ h => ⟨h.1, _, h.2⟩) | fail)
                        go_wp2
                        go_roundw
                        case rel => exact ⟨k + 1, _, by omega, by go_num, by first | rfl | exact World.drewN_drewN ..⟩
                        case measure => first | (simp only [intOf]; omega) | (simp [intOf]; omega)
                      | false =>
                        clear HEQ
                        go_wp2
                        go_quiet (first | (go_at_call 25; refine (Hid.out HOP _).mono fun _ _ h => ⟨h.1, _, h.2⟩) | fail)
                        go_wp2
                        go_roundw
                        case rel => exact ⟨k + 1, _, by omega, by go_num, by first | rfl | exact World.drewN_drewN ..⟩
                        case measure => first | (simp only [intOf]; omega) | (simp [intOf]; omega)
              · obtain rfl : n6 = k := by omega
                clear hk hkn
                rcases HMADE.out with rfl | ⟨rfl, rfl⟩
                · go_wp2_with (first
                    | (go_at_call 26; refine (Hid.out HMG _ _).mono ?_; rintro e w' ⟨rfl, hw⟩; obtain rfl := hw.symm; first | rw [cond_true] | rw [cond_false])
                    | go_in)
                  go_ret
                  exact ⟨rfl, below_drewN HB7.out _⟩
                · have hKn : K < n := of_decide_eq_true HP.out
                  have hKn2 : (K : Int) < (n : Int) := Int.ofNat_lt.2 hKn
                  cases B1 with
                  | true =>
                    go_wp2_with (first
                      | (go_at_call 26; refine (Hid.out HMG _ _).mono ?_; rintro e w' ⟨rfl, hw⟩; obtain rfl := hw.symm; first | rw [cond_true] | rw [cond_false])
                      | go_in)
                    go_ret
                    exact ⟨rfl, below_drewN HB7.out _⟩
                  | false =>
                    go_wp2_with (first
                      | (go_at_call 26; refine (Hid.out HMG _ _).mono ?_; rintro e w' ⟨rfl, hw⟩; obtain rfl := hw.symm; first | rw [cond_true] | rw [cond_false])
                      | go_in)
                    go_ret
                    exact ⟨rfl, below_drewN HB7.out _⟩
          · obtain ⟨bb, o, rfl, hbb, hcr⟩ := HIB.out.at_.resolve_left (fun e => by have := HXL.out; rw [e] at this; simp at this; omega)
            have hx0 : (0 : Int) < (xl : Int) := Int.ofNat_lt.2 (Nat.pos_of_ne_zero hxl)
            obtain ⟨kv, ev, c0, c1, c2, hk, he⟩ := hcr 0 (by rw [HXL.out]; omega)
            rw [Nat.zero_mul, Nat.add_zero] at c0 c1 c2
            obtain ⟨ks, hks⟩ : ∃ ks, (xs.getD 0 noCrs).keep = ks := ⟨_, rfl⟩
            rw [hks] at hk
            have y1 := ((HBJ.out.alloc HBJ.out.size (.cells #[.bool bq] 4)).cell (p := ⟨bb, o + 1, none⟩) hbb).trans c1
            have hcr2 := crash_any L Mj kv ks (wr.alloc (.cells #[.bool bq] 4)) (HMJ.out.alloc _) (by omega) (hk.is (HBJ.out.alloc HBJ.out.size _) HL.out) hk.len
            obtain ⟨ka, kc, rfl, -, -⟩ := id hk
            obtain ⟨kl, hkl⟩ : ∃ n, ks.length = n := ⟨_, rfl⟩
            rw [hkl] at hcr2 y1
            have HCRA : Hid (Calls Try.prog 23 #[.pointer (some ⟨L.mb, 0, none⟩), .slice ka kl kc] (wr.alloc (.cells #[.bool bq] 4)) fun e w' => e = .returned (.tuple #[]) ∧ MemIs w' L (Mj.crash ks) ∧ Only L.blocks (wr.alloc (.cells #[.bool bq] 4)) w') := hcr2
            clear hcr c0 c1 c2 hk he hks hcr2 hkl
            go_wp2_with fail
            refine Calls.mono (Hid.out HCRA) ?_
            rintro e w5 ⟨rfl, hm5, ho5⟩
            have HM5 : Hid (MemIs w5 L (Mj.crash ks)) := hm5
            have HB5 : Hid (Below w.heap.size w w5) := (HBJ.out.alloc HBJ.out.size _).trans (ho5.below (by have := HBJ.out.size; simp; omega) HL.out)
            have HR5 : Hid (RowIs w5 G g) := RowIs.only (g := g) (w := wr.alloc (.cells #[.bool bq] 4)) (HRJ.out.later (Nat.le_refl _) ((Below.refl _ _).alloc (Nat.le_refl _) _)) ho5 HGL.out
            clear hm5 ho5 y1 HCRA hbq hm2 hm3
            have hmd := mend_any P g cs HCTX.out HBASE.out HIA.out.ok L (Mj.crash ks) w (some ⟨bb, o, none⟩) cb xs w5 HIB.out HM5.out (HGD.out ks) rfl (by show Mj.calls ≤ 100000; omega) HB5.out HL.out
            rw [HXL.out] at hmd
            have HMD : Hid (Calls Try.prog 24 #[.pointer (some ⟨L.mb, 0, none⟩),   .slice (some ⟨bb, o, none⟩) xl cb] w5 fun e w' => e = .returned (.bool true) ∧ ∃ M', MemIs w' L M' ∧ Done P g cs M' ∧ Only L.blocks w5 w') := hmd
            clear hmd HM5 HGD HMJ HRJ HBJ
            go_wp2_with fail
            refine Calls.mono (Hid.out HMD) ?_
            rintro e w6 ⟨rfl, M', hm6, hd6, ho6⟩
            have HB6 : Hid (Below w.heap.size w w6) := HB5.out.trans (ho6.below HB5.out.size HL.out)
            have HR6 : Hid (RowIs w6 G g) := RowIs.only (g := g) HR5.out ho6 HGL.out
            have HM6 : Hid (MemIs w6 L M') := hm6
            obtain ⟨hlen, himg6, hmade⟩ := done_facts HCTX.out hd6
            have HF6 : Hid (∀ k : Nat, k < 2824 → (∀ i, i < cs.length → (cs.getD i (0, 0)).1 ≠ (k : Int)) → openI (k : Int) → imgF M' k = g k) := himg6
            obtain ⟨B1, hB1⟩ : ∃ r, madeB M' cs (fun i => (cs.getD i (0, 0)).2) = r := ⟨_, rfl⟩
            obtain ⟨B2, hB2⟩ : ∃ r, madeB M' cs (fun i => g (cs.getD i (0, 0)).1.toNat) = r := ⟨_, rfl⟩
            rw [hB1, hB2] at hmade
            have HB1 : Hid _ := hB1
            have HB2' : Hid _ := hB2
            have HMADE : Hid (B1 = true ∨ P = true ∧ B2 = true) := hmade
            have him := image_any L M' w6 hm6
            obtain ⟨n6, hn6⟩ : ∃ n, M'.sure.length = n := ⟨_, rfl⟩
            have HN6 : Hid (n6 = 2824) := hn6.symm.trans hlen
            have hu := fun w' h => img_at (w' := w') (M := M') (base := w6.heap.size) h
            rw [hn6] at him hu
            have HU : Hid _ := hu
            have HIM : Hid (Calls Try.prog 19 #[.pointer (some ⟨L.mb, 0, none⟩)] w6 fun e w' => e = .returned (.slice (some ⟨w6.heap.size, 0, none⟩) n6 n6) ∧ w'.ownsRow w6.heap.size 22 1 (.slice (some ⟨w6.heap.size, 0, none⟩) n6 n6) n6 (M'.image.map (Value.int .u64)) ∧ Below w6.heap.size w6 w') := him
            clear hm6 hd6 ho6 hlen himg6 hB1 hB2 hmade him hn6 hu HMD HB5 HR5
            go_wp2_with fail
            refine Calls.mono (Hid.out HIM) ?_
            rintro e w7 ⟨rfl, hrow7, b7⟩
            obtain ⟨GI, hGI⟩ : ∃ n, w6.heap.size = n := ⟨_, rfl⟩
            have hu7 := HU.out w7 hrow7
            have HB7 : Hid (Below w.heap.size w w7) := HB6.out.trans (b7.mono HB6.out.size)
            have HR7 : Hid (RowIs w7 G g) := HR6.out.later (Nat.le_refl _) b7
            have HM7 : Hid (MemIs w7 L M') := HM6.out.below b7 HM6.out.all_lt
            have HC7 : Hid (ChgsAt w7 a cs) := HIA.out.at_.later (Nat.le_refl _) HB7.out
            rw [hGI] at hu7 ⊢
            have HU7 : Hid (∀ k : Nat, k < n6 → w7.cell? ⟨GI, k, none⟩ = some (.int .u64 (imgF M' k))) := fun k hk => by
              obtain ⟨b, o, e, hb, hc⟩ := hu7.resolve_left (by omega)
              cases e
              have := hc k hk
              rwa [Nat.zero_add] at this
            have HMT : Hid (∀ m, Calls Try.prog 26 #[.pointer (some ⟨L.mb, 0, none⟩), .slice (some ⟨G, 0, none⟩) 2824 2824, .slice a cl ca, .bool true] (w7.drewN m) fun e w' => e = .returned (.bool B1) ∧ w' = w7.drewN m) := fun m => by
              have := made_any L M' G g (.slice (some ⟨G, 0, none⟩) 2824 2824) true a ca cs (fun i => (cs.getD i (0, 0)).2) (w7.drewN m) (HM7.out.below (below_drewN (Below.refl _ _) m) HM7.out.all_lt) (HC7.out.later (Nat.le_refl _) (below_drewN (Below.refl _ _) m)) HIA.out.ok (by rw [HCL.out]; omega) (.inl ⟨rfl, fun _ _ => rfl⟩)
              rw [HB1.out, HCL.out] at this; exact this
            have HMF : Hid (∀ m, Calls Try.prog 26 #[.pointer (some ⟨L.mb, 0, none⟩), .slice (some ⟨G, 0, none⟩) 2824 2824, .slice a cl ca, .bool false] (w7.drewN m) fun e w' => e = .returned (.bool B2) ∧ w' = w7.drewN m) := fun m => by
              have := made_any L M' G g (.slice (some ⟨G, 0, none⟩) 2824 2824) false a ca cs (fun i => g (cs.getD i (0, 0)).1.toNat) (w7.drewN m) (HM7.out.below (below_drewN (Below.refl _ _) m) HM7.out.all_lt) (HC7.out.later (Nat.le_refl _) (below_drewN (Below.refl _ _) m)) HIA.out.ok (by rw [HCL.out]; omega) (.inr ⟨rfl, rfl, HR7.out.later (Nat.le_refl _) (below_drewN (Below.refl _ _) m), fun i hi => by
                have h1 := rightP_inside HRP.out _ (getD_in hi)
                exact ⟨by omega, by omega, rfl⟩⟩)
              rw [HB2'.out, HCL.out] at this; exact this
            have HMG : Hid (∀ bb m, Calls Try.prog 26 #[.pointer (some ⟨L.mb, 0, none⟩), .slice (some ⟨G, 0, none⟩) 2824 2824, .slice a cl ca, .bool bb] (w7.drewN m) fun e w' => e = .returned (.bool (cond bb B1 B2)) ∧ w' = w7.drewN m) := fun bb m => by
              cases bb
              · exact HMF.out m
              · exact HMT.out m
            clear HMT HMF
            clear hrow7 b7 hGI hu7 HU HIM HB6 HR6 HM6
            go_wp2
            go_loopw [18, 19, 20] (fun i _ _ wr => ∃ k m : Nat, k ≤ n6 ∧ i = .int .i64 k ∧ wr = w7.drewN m) (fun i _ _ _ => n6 - (intOf i).toNat)
            case atStart => exact ⟨0, 0, Nat.zero_le _, rfl, rfl⟩
            case round =>
              obtain ⟨k, m, hk, rfl, rfl⟩ := hrel
              by_cases hkn : k < n6
              · have hkn2 : (k : Int) < (n6 : Int) := Int.ofNat_lt.2 hkn
                have HK : Hid (k < 2824) := by have := HN6.out; show k < 2824; omega
                have hk3 : k < 3000 := by have := HK.out; omega
                go_wp2
                go_loopw [19, 20] (fun t i wr => ∃ (j m2 : Nat) (T : Bool), j ≤ cl ∧ i = .int .i64 j ∧ t = .bool T ∧ wr = w7.drewN m2 ∧ Hid (Tch cs k j T)) (fun _ i _ => cl - (intOf i).toNat)
                case atStart => exact ⟨0, m, false, Nat.zero_le _, rfl, rfl, rfl, Tch.zero⟩
                case round =>
                  obtain ⟨j, m2, T, hj, rfl, rfl, rfl, hT⟩ := hrel
                  by_cases hjc : j < cl
                  · have hjc2 : (j : Int) < (cl : Int) := Int.ofNat_lt.2 hjc
                    cases T with
                    | true =>
                      go_wp2
                      go_roundw
                      case rel => exact ⟨j + 1, _, true, by omega, by go_num, rfl, by first | rfl | exact World.drewN_drewN .., Tch.more hT.out⟩
                      case measure => first | (simp only [intOf]; omega) | (simp [intOf]; omega)
                    | false =>
                      obtain ⟨ba, oa, rfl, hba, hca⟩ := HC7.out.resolve_left (fun e => by have := HCL.out; rw [e] at this; simp at this; omega)
                      have x1 := (hca j (by rw [HCL.out]; exact hjc)).1
                      have HTS : Hid (Tch cs k (j + 1) ((cs.getD j (0, 0)).1 == (k : Int))) := Tch.step hT.out
                      obtain ⟨X, hX⟩ : ∃ X, (cs.getD j (0, 0)).1 = X := ⟨_, rfl⟩
                      rw [hX] at x1 HTS
                      obtain ⟨T2, hT2⟩ : ∃ t, (X == (k : Int)) = t := ⟨_, rfl⟩
                      rw [hT2] at HTS
                      clear hca hX
                      go_wp2
                      go_roundw
                      case rel => exact ⟨j + 1, _, T2, by omega, by go_num, rfl, by first | rfl | exact World.drewN_drewN .., HTS.out⟩
                      case measure => first | (simp only [intOf]; omega) | (simp [intOf]; omega)
                  · have hjc2 : ¬ (j : Int) < (cl : Int) := fun h => hjc (Int.ofNat_lt.1 h)
                    cases T with
                    | true =>
                      clear hjc hT
                      go_wp2
                      go_quiet (fail)
                      go_wp2
                      go_roundw
                      case rel => exact ⟨k + 1, _, by omega, by go_num, by first | rfl | exact World.drewN_drewN ..⟩
                      case measure => first | (simp only [intOf]; omega) | (simp [intOf]; omega)
                    | false =>
                      have hno : ∀ i, i < cs.length → (cs.getD i (0, 0)).1 ≠ (k : Int) := Tch.no (j := j) hT.out (by rw [HCL.out]; exact Nat.le_of_not_lt hjc)
                      have HOP : Hid (∀ w, Calls Try.prog 25 #[.int .i64 k] w fun e w' => e = .returned (.bool (openB (k : Int))) ∧ w' = w) := fun w => refOpen_any k w
                      have HEQ : Hid (openB (k : Int) = true → imgF M' k = g k) := fun h => HF6.out k HK.out hno ((openB_iff _).1 h)
                      obtain ⟨ob, hob⟩ : ∃ o, openB (k : Int) = o := ⟨_, rfl⟩
                      rw [hob] at HOP HEQ
                      clear hno hob hjc hT
                      cases ob with
                      | true =>
                        have x1 := HU7.out k hkn
                        have x2 := HR7.out.cell k HK.out
                        rw [HEQ.out rfl] at x1
                        obtain ⟨Y, hY⟩ : ∃ y, g k = y := ⟨_, rfl⟩
                        rw [hY] at x1 x2
                        have hk28 : (k : Int) < 2824 := by have := HK.out; omega
                        have f1 : (Y != Y) = false := by simp
                        clear hY HEQ
                        go_wp2
                        go_quiet (first | (go_at_call 25; refine (Hid.out HOP _).mono fun _ _ h => ⟨h.1, _, h.2⟩) | fail)
                        go_wp2
                        go_roundw
                        case rel => exact ⟨k + 1, _, by omega, by go_num, by first | rfl | exact World.drewN_drewN ..⟩
                        case measure => first | (simp only [intOf]; omega) | (simp [intOf]; omega)
                      | false =>
                        clear HEQ
                        go_wp2
                        go_quiet (first | (go_at_call 25; refine (Hid.out HOP _).mono fun _ _ h => ⟨h.1, _, h.2⟩) | fail)
                        go_wp2
                        go_roundw
                        case rel => exact ⟨k + 1, _, by omega, by go_num, by first | rfl | exact World.drewN_drewN ..⟩
                        case measure => first | (simp only [intOf]; omega) | (simp [intOf]; omega)
              · obtain rfl : n6 = k := by omega
                clear hk hkn
                rcases HMADE.out with rfl | ⟨rfl, rfl⟩
                · go_wp2_with (first
                    | (go_at_call 26; refine (Hid.out HMG _ _).mono ?_; rintro e w' ⟨rfl, hw⟩; obtain rfl := hw.symm; first | rw [cond_true] | rw [cond_false])
                    | go_in)
                  go_ret
                  exact ⟨rfl, below_drewN HB7.out _⟩
                · have hKn : K < n := of_decide_eq_true HP.out
                  have hKn2 : (K : Int) < (n : Int) := Int.ofNat_lt.2 hKn
                  cases B1 with
                  | true =>
                    go_wp2_with (first
                      | (go_at_call 26; refine (Hid.out HMG _ _).mono ?_; rintro e w' ⟨rfl, hw⟩; obtain rfl := hw.symm; first | rw [cond_true] | rw [cond_false])
                      | go_in)
                    go_ret
                    exact ⟨rfl, below_drewN HB7.out _⟩
                  | false =>
                    go_wp2_with (first
                      | (go_at_call 26; refine (Hid.out HMG _ _).mono ?_; rintro e w' ⟨rfl, hw⟩; obtain rfl := hw.symm; first | rw [cond_true] | rw [cond_false])
                      | go_in)
                    go_ret
                    exact ⟨rfl, below_drewN HB7.out _⟩

set_option maxRecDepth 100000 in
theorem lifted (os : Os) (started : os.Started) (H : Type) (enc : TypeId × Value → H) :
    ReturnsInHanded {} Try.checked os 5 .any (Rows.sealCrashSpec.pre6 enc Try.prog Try.f5 Rows.sealCrashRow.domain false) (Rows.sealCrashSpec.post enc Try.prog Try.f5 false true false false) := by
  refine returnsInHanded_of_change (C := Try.checked) own started (by kernel_rfl) Try.func5
    (ChangeSpec.witness6 (enc := enc) (C := Try.checked) false ⟨#[], #[.slice none 0 0, .int .i64 0, .slice none 0 0], []⟩ 8 (by kernel_rfl) (by kernel_rfl) (by kernel_rfl) (by kernel_rfl)) ?_
  intro W base args ds gs before hval0 hW hcnd _
  have hval : ∀ (j : Nat) t v, Try.f5.params[j]? = some t → args[j]? = some v → Value.okWide Try.prog W .any base t v := hval0
  have hW' := hW
  obtain ⟨p, q, hA0, hV, rfl, hfz, hnd⟩ := hW
  have hA : DataW.TrodAll enc Try.prog W 0 (fun _ => true) true Try.f5.params.toList args.toList ds p := hA0
  rw [Try.params5] at hA hval
  obtain ⟨v0, vs0, d0, ds0, p0, q0, hargs, rfl, rfl, h0, r0⟩ := trodAll_cons hA
  obtain ⟨v1, vs1, d1, ds1, p1, q1, rfl, rfl, rfl, h1, r1⟩ := trodAll_cons r0
  obtain ⟨v2, vs2, d2, ds2, p2, q2, rfl, rfl, rfl, h2, r2⟩ := trodAll_cons r1
  obtain ⟨rfl, rfl, rfl⟩ := trodAll_nil r2
  obtain rfl : args = #[v0, v1, v2] := by cases args; simp_all
  obtain ⟨rfl, rfl⟩ := trodVars_none hV
  have k0 := h0
  have lt0 : ∀ x ∈ p0, x.block < W.heap.size := by obtain ⟨m, hm⟩ := k0; exact DataW.trod_lt m _ _ _ hm
  obtain ⟨a0, len0, cap0, rfl⟩ := okWide_slice Try.underlying23 (hval 0 23 v0 rfl rfl)
  obtain ⟨cs0, hl0, w0⟩ := open_chgs rfl h0
  subst hl0
  obtain ⟨a1, rfl, rfl, rfl, w1⟩ := open_int Try.underlying3 (hval 1 3 v1 rfl rfl) h1
  have k2 := h2
  have lt2 : ∀ x ∈ p2, x.block < W.heap.size := by obtain ⟨m, hm⟩ := k2; exact DataW.trod_lt m _ _ _ hm
  obtain ⟨a2, len2, cap2, rfl⟩ := okWide_slice Try.underlying53 (hval 2 53 v2 rfl rfl)
  obtain ⟨xs2, hl2, w2⟩ := open_crashes rfl h2
  subst hl2
  clear hA0 hval0
  refine (walk a0 cap0 cs0 a1 a2 cap2 xs2 W w0 (bounds_i64 w1) w2).mono fun e W' ⟨he, bel⟩ => ?_
  subst he
  exact ⟨_, rfl, _, _, _, [], _, [], hW', trodAll_mk1 (shut_bool Try.underlying4 _), (trodAll_cons_mk (Below.trod laidOut (by kernel_rfl) (of_decide_eq_true (by kernel_rfl)) k0 bel lt0) (trodAll_cons_mk (shut_int Try.underlying3 w1) (trodAll_cons_mk (Below.trod laidOut (by kernel_rfl) (of_decide_eq_true (by kernel_rfl)) k2 bel lt2) trodAll_mk0))), rfl, bel.frame _, fun h => by cases h⟩

theorem over : Rows.sealCrashRow.holds Try.pinned (OpenSpec.ofChange Rows.sealCrashSpec) :=
  OpenClaim.holds_of_wide 5 Try.f5 rfl rfl rfl rfl rfl rfl rfl ⟨rfl, rfl, rfl, rfl, rfl⟩ rfl rfl rfl rfl rfl (by kernel_rfl) Try.func5 (by kernel_rfl)
    (of_decide_eq_true (by kernel_rfl)) (by unfold Func.isWrapper; first | (rw [if_pos (by decide +kernel)]; kernel_rfl) | (rw [if_neg (by decide +kernel)]; exact ⟨rfl, rfl⟩))
    (fun os started H enc _ => lifted os started H enc)

theorem proved : Rows.SealCrashSaid := over
#print axioms proved
end Go.Proofs.Ytfalchacdebdpaa.sealCrash
