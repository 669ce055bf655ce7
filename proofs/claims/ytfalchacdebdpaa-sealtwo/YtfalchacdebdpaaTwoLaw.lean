/- Proved: for every two slices of changes and either bool, 'SealTwo' returns true and its arguments read afterwards as before. No condition. -/
import Derived.Test.YtfalchacdebdpaaRows
import Derived.Test.YtfalchacdebdpaaMade
import Derived.Test.YtfalchacdebdpaaTwoMath
namespace Go.Proofs.Ytfalchacdebdpaa.sealTwo
open Go.ChangeShapes Go.WideShapes Go.ChangeAt Go.RowKit Go.Shelf
set_option linter.unusedVariables false

theorem own : ownKnob Try.prog.godebug = none := by kernel_rfl
theorem laidOut : laidOutB Try.prog = true := by kernel_rfl

theorem slice_to (a : Option Addr) (n cap k : Nat) (h : k ≤ cap) (hn : a = none → cap = 0) (w : World) : (Instr.slice 23 (.slice a n cap) none (some (.int .i64 k)) none).run Try.prog w = .ok (.slice a k cap) w := by
  cases a with
  | none =>
    obtain rfl := hn rfl
    obtain rfl : k = 0 := by omega
    simp [go_sem]
  | some x =>
    have h2 : (k : Int) ≤ (cap : Int) := by omega
    simp [go_sem, h2]

/-- Steps, whatever the changes. -/
theorem steps_all (s : Nat) (num : Int) (a : Option Addr) (cap : Nat) (cs : List Chg) (hok : ChgOk cs) (hs : s < 4) (hn : num ≠ 0) (w : World) (h : ChgsAt w a cs) :
    Calls Try.prog 9 #[.int .i64 s, .int .u64 num, .slice a cs.length cap] w fun e w' => ∃ v S n r, e = .returned (.tuple #[v, .int .i64 n, .int .i64 r]) ∧ OwnStps w' w.heap.size v S ∧ Below w.heap.size w w' ∧
      (rightP cs ≠ 0 ∧ r ≠ 0 ∨ rightP cs = 0 ∧ r = 0 ∧ ∃ nn : Nat, n = (nn : Int) ∧ nn ≤ S.length ∧ (∃ g, Side s num cs (S.take nn) g ∨ rightP cs ≠ 0 ∨ headN (logAt s) ≠ 0)) := by
  have e : (296 + 248 * (s : Int)) = ((logAt s : Nat) : Int) := by
    have : logAt s = 296 + 248 * s := rfl
    omega
  by_cases hr : rightP cs = 0
  · have hz : headN (logAt s) = 0 := base_head.zero s hs
    have hctx : Ctx s num cs headN := ⟨hs, hn, hr, hz⟩
    by_cases hne : cs = []
    · subst hne
      refine (steps_none s num a cap w (by omega) (by omega) hn).mono ?_
      rintro e w' ⟨rfl, hb⟩
      exact ⟨_, [], 0, 0, rfl, World.ownsRow_nil _ _ _ _, hb, .inr ⟨hr, rfl, 0, rfl, Nat.zero_le _, headN, .inl ⟨hctx, .inl ⟨rfl, rfl, rfl⟩⟩⟩⟩
    · refine (steps_good s num a cap cs w h hok (by omega) (by omega) hn hr hne).mono ?_
      rintro e' w' ⟨v, rfl, ho, hb⟩
      rw [e] at ho ⊢
      refine ⟨v, _, _, 0, rfl, ho, hb, .inr ⟨hr, rfl, (sealingP (logAt s) num cs).length, rfl, ?_, _, .inl ⟨hctx, .inr ⟨hne, ?_, rfl⟩⟩⟩⟩
      · unfold stepsP; rw [List.length_append]; omega
      · unfold stepsP; rw [List.take_left']; rfl
  · refine (steps_wrong s num a cap cs w h hok (by omega) (by omega) hn hr).mono ?_
    rintro e w' ⟨rfl, hb⟩
    exact ⟨_, [], 0, _, rfl, World.ownsRow_nil _ _ _ _, hb, .inl ⟨hr, hr⟩⟩

theorem keep_one {w : World} {S : List Nat} (b : Bool) (hS : ∀ k ∈ S, k < w.heap.size) : KeepIs (w.alloc (.cells #[.bool b] 4)) S (.slice (some ⟨w.heap.size, 0, none⟩) 1 1) [b] := by
  refine ⟨_, _, rfl, .inr ⟨w.heap.size, 0, rfl, fun hm => by have := hS _ hm; omega, fun i hi => ?_⟩⟩
  rw [World.cell?_alloc_at _ _ _ _ rfl]
  match i, hi with
  | 0, _ => rfl

/-- What the number is that the law holds a word of the first list against. -/
def Vrel (b : List Chg) (A VA : Int) (j : Nat) (V : Int) : Prop := (∃ i, i < j ∧ (b.getD i (0, 0)).1 = A ∧ V = (b.getD i (0, 0)).2) ∨ ((∀ i, i < j → (b.getD i (0, 0)).1 ≠ A) ∧ V = VA)
theorem Vrel.yes {b : List Chg} {A VA V : Int} {j : Nat} (h : (b.getD j (0, 0)).1 = A) : Vrel b A VA (j + 1) (b.getD j (0, 0)).2 := .inl ⟨j, by omega, h, rfl⟩
theorem Vrel.no {b : List Chg} {A VA V : Int} {j : Nat} (hv : Vrel b A VA j V) (h : (b.getD j (0, 0)).1 ≠ A) : Vrel b A VA (j + 1) V := by
  rcases hv with ⟨i, h1, h2, h3⟩ | ⟨h1, h2⟩
  · exact .inl ⟨i, by omega, h2, h3⟩
  · refine .inr ⟨fun i hi => ?_, h2⟩
    by_cases e : i = j
    · subst e; exact h
    · exact h1 i (by omega)

theorem step_of {M0 Mj : Mem} {ss : List Stp} {s : Stp} (h : runP M0 ss = (Mj, 0)) (hf : s.Ok ∧ s.fits 2824) (hl : M0.sure.length = 2824) (hs : M0.stops = false) : Mj.ans s = 0 ∧ runP M0 (ss ++ [s]) = (Mj.act s, 0) := by
  obtain ⟨r1, r2⟩ := runP_fits h
  have hst : Mj.stops = false := by have := runP_stops M0 ss; rw [h] at this; exact this.trans hs
  have ha : Mj.ans s = 0 := by rw [ans_of Mj _ (by rw [r1, hl]; exact hf.2)]; exact err_free Mj hst
  refine ⟨ha, ?_⟩
  rw [runP_app _ _ _ (by rw [h]), h]
  show runP Mj [s] = _
  rw [runP_ok ha]; rfl

theorem getD_stp {S : List Stp} {j : Nat} (h : j < S.length) : S.getD j ⟨0, 0, 0⟩ ∈ S := by simp [h]
theorem take_at {S : List Stp} {n j : Nat} (h : j < n) : (S.take n).getD j ⟨0, 0, 0⟩ = S.getD j ⟨0, 0, 0⟩ := by simp [List.getD, h]
theorem turn_both {X Y : List Stp} {j : Nat} (hx : j < X.length) (hy : j < Y.length) : inTurn X Y (j + 1) = inTurn X Y j ++ [X.getD j ⟨0, 0, 0⟩] ++ [Y.getD j ⟨0, 0, 0⟩] := by
  rw [inTurn_succ, List.getElem?_eq_getElem hx, List.getElem?_eq_getElem hy, List.append_assoc]
  have e1 : X.getD j ⟨0, 0, 0⟩ = X[j] := by simp [hx]
  have e2 : Y.getD j ⟨0, 0, 0⟩ = Y[j] := by simp [hy]
  rw [e1, e2]; rfl
theorem turn_left {X Y : List Stp} {j : Nat} (hx : j < X.length) (hy : ¬ j < Y.length) : inTurn X Y (j + 1) = inTurn X Y j ++ [X.getD j ⟨0, 0, 0⟩] := by
  rw [inTurn_succ, List.getElem?_eq_getElem hx, List.getElem?_eq_none (by omega)]
  have e1 : X.getD j ⟨0, 0, 0⟩ = X[j] := by simp [hx]
  rw [e1]; simp
theorem turn_right {X Y : List Stp} {j : Nat} (hx : ¬ j < X.length) (hy : j < Y.length) : inTurn X Y (j + 1) = inTurn X Y j ++ [Y.getD j ⟨0, 0, 0⟩] := by
  rw [inTurn_succ, List.getElem?_eq_getElem hy, List.getElem?_eq_none (by omega)]
  have e1 : Y.getD j ⟨0, 0, 0⟩ = Y[j] := by simp [hy]
  rw [e1]; simp

/-- What recovering makes of it all. -/
theorem two_math {a b : List Chg} {X Y : List Stp} {gA gB : Nat → Int} (hA : Side 0 3 a X gA) (hB : Side 2 4 b Y gB) (oka : ChgOk a) (okb : ChgOk b) {m0 M : Mem} (h0 : SureM m0 headN) (hs : m0.stops = false) {j : Nat} (h1 : X.length ≤ j) (h2 : Y.length ≤ j) (h : runP m0 (inTurn X Y j) = (M, 0)) (hin : M.In) (ks : List Bool) :
    ∀ k r M', RecSpec (M.crash ks) k r M' → r = 0 ∧ k = (if a = [] then 0 else 1) + (if b = [] then 0 else 1) ∧ M'.read 296 = 0 ∧ M'.read 792 = 0 ∧ (∀ c ∈ b, M'.read c.1 = c.2) ∧ (∀ c ∈ a, (∀ d ∈ b, d.1 ≠ c.1) → M'.read c.1 = c.2) := by
  have hl : M.sure.length = 2824 := by rw [(runP_fits h).1]; exact h0.1
  obtain ⟨c1, c2⟩ := crash_sure hin hl ks
  intro k r M' hr
  refine two_recover hA hB oka okb c1 (fun q hq => ?_) rfl hr
  have hw := run_words (M := m0) (ss := inTurn X Y j) (by rw [h]) q (by rw [h0.1]; exact hq)
  rw [h, h0.2 q hq, two_words hA hB h1 h2 q] at hw
  have := c2 q hq
  rw [hw] at this
  exact left_sure this

set_option maxHeartbeats 16000000 in
set_option maxRecDepth 100000 in
theorem walk (a : Option Addr) (ca : Nat) (as0 : List Chg) (b : Option Addr) (cb : Nat) (bs0 : List Chg) (first : Bool) (w : World) (hia : ChgIn w a ca as0) (hib : ChgIn w b cb bs0) :
    Calls Try.prog 7 #[.slice a as0.length ca, .slice b bs0.length cb, .bool first] w fun e w' => e = .returned (.bool true) ∧ Below w.heap.size w w' := by
  obtain ⟨na, hna⟩ : ∃ n, as0.length = n := ⟨_, rfl⟩
  obtain ⟨nb, hnb⟩ : ∃ n, bs0.length = n := ⟨_, rfl⟩
  obtain ⟨ka, ha⟩ : ∃ k : Nat, min (na : Int) 60 = (k : Int) := ⟨(min (na : Int) 60).toNat, by omega⟩
  obtain ⟨kb, hb⟩ : ∃ k : Nat, min (nb : Int) 60 = (k : Int) := ⟨(min (nb : Int) 60).toNat, by omega⟩
  have h1 : ka ≤ ca := by have := hia.le; omega
  have h2 : kb ≤ cb := by have := hib.le; omega
  have s1 := slice_to a na ca ka h1 hia.none
  have s2 := slice_to b nb cb kb h2 hib.none
  obtain ⟨aa, has⟩ : ∃ l, as0.take 60 = l := ⟨_, rfl⟩
  obtain ⟨bb, hbs⟩ : ∃ l, bs0.take 60 = l := ⟨_, rfl⟩
  have HKA : Hid (aa.length = ka) := by show aa.length = ka; rw [← has, List.length_take]; omega
  have HKB : Hid (bb.length = kb) := by show bb.length = kb; rw [← hbs, List.length_take]; omega
  have HCA : Hid (ChgsAt w a aa) := by rw [← has]; exact hia.at_.take 60
  have HCB : Hid (ChgsAt w b bb) := by rw [← hbs]; exact hib.at_.take 60
  have HOA : Hid (ChgOk aa) := by rw [← has]; exact hia.ok.take 60
  have HOB : Hid (ChgOk bb) := by rw [← hbs]; exact hib.ok.take 60
  have hka60 : ka ≤ 60 := by omega
  have hkb60 : kb ≤ 60 := by omega
  rw [hna, hnb]
  have HLV := lives_any
  have HIM := image13_any
  clear hia hib hna hnb has hbs
  go_enter Try.func7, Try.ntmps7
  go_wp2_with fail
  refine (HLV _).mono ?_
  rintro e w0 ⟨rfl, b0⟩
  go_wp2
  go_quiet (fail)
  clear s1 s2 ha hb
  generalize hW : w0.drewN nq = wq
  have bq : Below w.heap.size w wq := by rw [← hW]; exact below_drewN b0 _
  clear hW b0
  go_wp2_with fail
  refine (HIM _).mono ?_
  rintro e w1 ⟨G, rfl, hrow, hG, b1⟩
  have b01 := bq.trans (b1.mono bq.size)
  go_wp2_with fail
  refine (load_img G headN _ hrow (fun i _ => headN_wf i)).mono ?_
  rintro e w2 ⟨L, rfl, hm, hL, b2⟩
  have HM2 : Hid (MemIs w2 L (fresh (imgL headN))) := hm
  have HL : Hid (∀ k ∈ L.blocks, w.heap.size ≤ k) := fun k hk => by have := hL k hk; have := b01.size; omega
  have b02 := b01.trans (b2.mono b01.size)
  have B2 : Hid (Below w.heap.size w w2) := b02
  have HALL : Hid (∀ k ∈ L.blocks, k < w2.heap.size) := hm.all_lt
  have hst := steps_all 0 3 a ca aa HOA.out (by decide) (by decide) w2 (HCA.out.later (Nat.le_refl _) b02)
  rw [HKA.out] at hst
  have HST : Hid (Calls Try.prog 9 #[.int .i64 0, .int .u64 3, .slice a ka ca] w2 fun e w' => ∃ v S n r, e = .returned (.tuple #[v, .int .i64 n, .int .i64 r]) ∧ OwnStps w' w2.heap.size v S ∧ Below w2.heap.size w2 w' ∧
      (rightP aa ≠ 0 ∧ r ≠ 0 ∨ rightP aa = 0 ∧ r = 0 ∧ ∃ nn : Nat, n = (nn : Int) ∧ nn ≤ S.length ∧ (∃ g, Side 0 3 aa (S.take nn) g ∨ rightP aa ≠ 0 ∨ headN (logAt 0) ≠ 0))) := hst
  clear hrow hG bq b1 b01 b02 b2 hm hL HIM HLV hst
  go_wp2_with fail
  refine Calls.mono (Hid.out HST) ?_
  rintro e w3 ⟨v1, S1, n1, r1, rfl, hos1, b3, hS1⟩
  have B3 : Hid (Below w.heap.size w w3) := B2.out.trans (b3.mono B2.out.size)
  have HM3 : Hid (MemIs w3 L (fresh (imgL headN))) := HM2.out.below b3 HALL.out
  have hst := steps_all 2 4 b cb bb HOB.out (by decide) (by decide) w3 (HCB.out.later (Nat.le_refl _) B3.out)
  rw [HKB.out] at hst
  have HST2 : Hid (Calls Try.prog 9 #[.int .i64 2, .int .u64 4, .slice b kb cb] w3 fun e w' => ∃ v S n r, e = .returned (.tuple #[v, .int .i64 n, .int .i64 r]) ∧ OwnStps w' w3.heap.size v S ∧ Below w3.heap.size w3 w' ∧
      (rightP bb ≠ 0 ∧ r ≠ 0 ∨ rightP bb = 0 ∧ r = 0 ∧ ∃ nn : Nat, n = (nn : Int) ∧ nn ≤ S.length ∧ (∃ g, Side 2 4 bb (S.take nn) g ∨ rightP bb ≠ 0 ∨ headN (logAt 2) ≠ 0))) := hst
  have HS1 : Hid _ := hS1
  have HO1 : Hid (OwnStps w3 w2.heap.size v1 S1) := hos1
  have hbs3 := b3.size
  clear hst HST hS1 hos1 b3 HM2 B2
  go_wp2_with fail
  refine Calls.mono (Hid.out HST2) ?_
  rintro e w4 ⟨v2, S2, n2, r2, rfl, hos2, b4, hS2⟩
  have B4 : Hid (Below w.heap.size w w4) := B3.out.trans (b4.mono B3.out.size)
  have HB3s : Hid (w2.heap.size ≤ w3.heap.size) := hbs3
  have HM4 : Hid (MemIs w4 L (fresh (imgL headN))) := HM3.out.below b4 HM3.out.all_lt
  have HO14 : Hid (OwnStps w4 w2.heap.size v1 S1) := HO1.out.later (Nat.le_refl _) b4
  have HO24 : Hid (OwnStps w4 w2.heap.size v2 S2) := ownsRow_base_a hos2 hbs3
  clear HST2 hos2 b4 HM3 B3 HO1
  rcases HS1.out with ⟨hr1, hr2⟩ | ⟨hra, rfl, n1', rfl, hn1, gA, hgA⟩
  · have q1 : (r1 != 0) = true := by simpa using hr2
    clear hr1 hr2 hS2
    go_wp2
    go_ret
    exact ⟨rfl, B4.out⟩
  rcases hS2 with ⟨hr1, hr2⟩ | ⟨hrb, rfl, n2', rfl, hn2, gB, hgB⟩
  · have q1 : (r2 != 0) = true := by simpa using hr2
    clear hr1 hr2
    go_wp2
    go_ret
    exact ⟨rfl, B4.out⟩
  have HSA : Hid (Side 0 3 aa (S1.take n1') gA) := by
    rcases hgA with h | h | h
    · exact h
    · exact absurd hra h
    · exact absurd (base_head.zero 0 (by decide)) h
  have HSB : Hid (Side 2 4 bb (S2.take n2') gB) := by
    rcases hgB with h | h | h
    · exact h
    · exact absurd hrb h
    · exact absurd (base_head.zero 2 (by decide)) h
  have HLX : Hid ((S1.take n1').length = n1') := by show (S1.take n1').length = n1'; rw [List.length_take]; omega
  have HLY : Hid ((S2.take n2').length = n2') := by show (S2.take n2').length = n2'; rw [List.length_take]; omega
  have HFX : Hid (StpsFit (S1.take n1')) := HSA.out.fit (by decide) HOA.out
  have HFY : Hid (StpsFit (S2.take n2')) := HSB.out.fit (by decide) HOB.out
  obtain ⟨va, vc, rfl, hva⟩ := ownsRow_formK HO14.out
  obtain ⟨ua, uc, rfl, hua⟩ := ownsRow_formK HO24.out
  obtain ⟨sn1, hsn1⟩ : ∃ n, S1.length = n := ⟨_, rfl⟩
  obtain ⟨sn2, hsn2⟩ : ∃ n, S2.length = n := ⟨_, rfl⟩
  have HN1 : Hid (S1.length = sn1) := hsn1
  have HN2 : Hid (S2.length = sn2) := hsn2
  have hle1 : n1' ≤ 1000 := by
    rcases HSA.out.steps with ⟨_, e, _⟩ | ⟨_, e, _⟩
    · have := HLX.out; rw [e] at this; simp at this; omega
    · have l1 := sureP_len (notesP (logAt 0) aa)
      have l2 := sureP_len [((logAt 0 : Int), (3 : Int))]
      have l3 : (notesP (logAt 0 : Int) aa).length = 1 + aa.length * 2 := notesTo_len _ _ _
      simp only [List.length_cons, List.length_nil] at l2
      have := HLX.out
      rw [e] at this
      unfold sealingP at this
      rw [List.length_append] at this
      have := HKA.out
      omega
  have hle2 : n2' ≤ 1000 := by
    rcases HSB.out.steps with ⟨_, e, _⟩ | ⟨_, e, _⟩
    · have := HLY.out; rw [e] at this; simp at this; omega
    · have l1 := sureP_len (notesP (logAt 2) bb)
      have l2 := sureP_len [((logAt 2 : Int), (4 : Int))]
      have l3 : (notesP (logAt 2 : Int) bb).length = 1 + bb.length * 2 := notesTo_len _ _ _
      simp only [List.length_cons, List.length_nil] at l2
      have := HLY.out
      rw [e] at this
      unfold sealingP at this
      rw [List.length_append] at this
      have := HKB.out
      omega
  rw [hsn1] at hva hn1 ⊢
  rw [hsn2] at hua hn2 ⊢
  have HO15 : Hid (OwnStps w4 w2.heap.size (.slice va sn1 vc) S1) := by have := HO14.out; rw [hsn1] at this; exact this
  have HO25 : Hid (OwnStps w4 w2.heap.size (.slice ua sn2 uc) S2) := by have := HO24.out; rw [hsn2] at this; exact this
  obtain ⟨m0, hm0⟩ : ∃ m, fresh (imgL headN) = m := ⟨_, rfl⟩
  have HX : Hid (m0.sure.length = 2824 ∧ m0.stops = false ∧ m0.calls = 0) := by rw [← hm0]; exact ⟨imgL_len _, rfl, rfl⟩
  have HXS : Hid (SureM m0 headN) := by rw [← hm0]; exact fresh_sure headN
  rw [hm0] at HM4
  clear hgA hgB hra hrb hsn1 hsn2 hm0 HO14 HO24 HS1
  go_wp2
  go_loopw [14] (fun i wr => ∃ (j : Nat) (Mj : Mem), j ≤ max n1' n2' ∧ i = .int .i64 j ∧ Hid (MemIs wr L Mj) ∧ Hid (runP m0 (inTurn (S1.take n1') (S2.take n2') j) = (Mj, 0)) ∧ Hid (OwnStps wr w2.heap.size (.slice va sn1 vc) S1) ∧ Hid (OwnStps wr w2.heap.size (.slice ua sn2 uc) S2) ∧ Hid (Below w.heap.size w wr) ∧ Hid (Mj.calls ≤ 2 * j)) (fun i _ => max n1' n2' - (intOf i).toNat)
  case atStart => exact ⟨0, m0, Nat.zero_le _, rfl, HM4.out, rfl, HO15.out, HO25.out, B4.out, (by show m0.calls ≤ 0; rw [HX.out.2.2]; exact Nat.le_refl 0)⟩
  case round =>
    obtain ⟨j, Mj, hj, rfl, hm, hrun, hos1, hos2, hb, hcj⟩ := hrel
    by_cases hx : j < n1'
    · have hx2 : (j : Int) < (n1' : Int) := by omega
      rcases hva with h0 | ⟨g1, rfl, hg1⟩
      · omega
      have hx3 : (j : Int) < (sn1 : Int) := by omega
      have hjl : j < S1.length := by have := HN1.out; omega
      have hos1' : OwnStps wr w2.heap.size (.slice (some ⟨g1, 0, none⟩) S1.length vc) S1 := by rw [HN1.out]; exact hos1.out
      obtain ⟨y0, y1, y2⟩ := stp_at hos1' j hjl
      have hmX : (S1.take n1').getD j ⟨0, 0, 0⟩ ∈ S1.take n1' := getD_stp (by rw [HLX.out]; exact hx)
      have hfX := HFX.out _ hmX
      rw [take_at hx] at hfX
      obtain ⟨haX, hrX⟩ := step_of hrun.out hfX HX.out.1 HX.out.2.1
      have HCJ := hcj.out
      have hdo := do_any L Mj (S1.getD j ⟨0, 0, 0⟩) wr hm.out (by omega) hfX.1
      rw [haX] at hdo
      have hac := act_calls Mj (S1.getD j ⟨0, 0, 0⟩)
      by_cases hy : j < n2'
      · have hy2 : (j : Int) < (n2' : Int) := by omega
        rcases hua with h0 | ⟨g2, rfl, hg2⟩
        · omega
        have hy3 : (j : Int) < (sn2 : Int) := by omega
        have hjl2 : j < S2.length := by have := HN2.out; omega
        have HT : Hid (inTurn (S1.take n1') (S2.take n2') (j + 1) = inTurn (S1.take n1') (S2.take n2') j ++ [S1.getD j ⟨0, 0, 0⟩] ++ [S2.getD j ⟨0, 0, 0⟩]) := by
          have := turn_both (X := S1.take n1') (Y := S2.take n2') (j := j) (by rw [HLX.out]; exact hx) (by rw [HLY.out]; exact hy)
          rw [take_at hx, take_at hy] at this; exact this
        have hmY : (S2.take n2').getD j ⟨0, 0, 0⟩ ∈ S2.take n2' := getD_stp (by rw [HLY.out]; exact hy)
        have hfY := HFY.out _ hmY
        rw [take_at hy] at hfY
        obtain ⟨haY, hrY⟩ := step_of hrX hfY HX.out.1 HX.out.2.1
        have hac2 := act_calls (Mj.act (S1.getD j ⟨0, 0, 0⟩)) (S2.getD j ⟨0, 0, 0⟩)
        have hdo2 := fun w (h : MemIs w L (Mj.act (S1.getD j ⟨0, 0, 0⟩))) => do_any L (Mj.act (S1.getD j ⟨0, 0, 0⟩)) (S2.getD j ⟨0, 0, 0⟩) w h (by omega) hfY.1
        rw [haY] at hdo2
        have HZ : Hid (∀ w', OwnStps w' w2.heap.size (.slice (some ⟨g2, 0, none⟩) sn2 uc) S2 → w'.cell? ⟨g2, j * 3, none⟩ = some (.int .i64 (S2.getD j ⟨0, 0, 0⟩).kind) ∧ w'.cell? ⟨g2, j * 3 + 1, none⟩ = some (.int .i64 (S2.getD j ⟨0, 0, 0⟩).at_) ∧ w'.cell? ⟨g2, j * 3 + 2, none⟩ = some (.int .u64 (S2.getD j ⟨0, 0, 0⟩).v)) := fun w' ho => by
          have h2 : OwnStps w' w2.heap.size (.slice (some ⟨g2, 0, none⟩) S2.length uc) S2 := by rw [HN2.out]; exact ho
          exact stp_at h2 j hjl2
        have HRY : Hid _ := hrY
        obtain ⟨s, hs⟩ : ∃ s, S1.getD j ⟨0, 0, 0⟩ = s := ⟨_, rfl⟩
        obtain ⟨t, ht⟩ : ∃ s, S2.getD j ⟨0, 0, 0⟩ = s := ⟨_, rfl⟩
        rw [hs] at y0 y1 y2 hdo hdo2 HRY HT hac hac2
        rw [ht] at HZ hdo2 HRY HT hac2
        obtain ⟨K1, A1, V1⟩ := s
        obtain ⟨K2, A2, V2⟩ := t
        obtain ⟨act1, hact1⟩ : ∃ r, Mj.act ⟨K1, A1, V1⟩ = r := ⟨_, rfl⟩
        rw [hact1] at HRY hdo hdo2 hac hac2
        obtain ⟨act2, hact2⟩ : ∃ r, act1.act ⟨K2, A2, V2⟩ = r := ⟨_, rfl⟩
        rw [hact2] at HRY hdo2 hac2
        have HDO : Hid (Calls Try.prog 21 #[.pointer (some ⟨L.mb, 0, none⟩), .agg #[.int .i64 K1, .int .i64 A1, .int .u64 V1]] wr fun e w' => e = .returned (.int .i64 0) ∧ MemIs w' L act1 ∧ Only L.blocks wr w') := hdo
        have HDO2 : Hid (∀ w', MemIs w' L act1 → Calls Try.prog 21 #[.pointer (some ⟨L.mb, 0, none⟩), .agg #[.int .i64 K2, .int .i64 A2, .int .u64 V2]] w' fun e w'' => e = .returned (.int .i64 0) ∧ MemIs w'' L act2 ∧ Only L.blocks w' w'') := hdo2
        have HCC : Hid (act2.calls ≤ 2 * (j + 1)) := by show act2.calls ≤ 2 * (j + 1); omega
        clear hdo hdo2 hs ht hact1 hact2 hos1' hrun haX haY hrX hrY hmX hmY hfX hfY hac hac2 hcj
        go_wp2_with fail
        refine Calls.mono (Hid.out HDO) ?_
        rintro e w5 ⟨rfl, hm5, ho5⟩
        have HM5 : Hid (MemIs w5 L act1) := hm5
        have HO51 : Hid (OwnStps w5 w2.heap.size (.slice (some ⟨g1, 0, none⟩) sn1 vc) S1) := hos1.out.only ho5 HALL.out
        have HO52 : Hid (OwnStps w5 w2.heap.size (.slice (some ⟨g2, 0, none⟩) sn2 uc) S2) := hos2.out.only ho5 HALL.out
        have HB5 : Hid (Below w.heap.size w w5) := hb.out.trans (ho5.below hb.out.size HL.out)
        obtain ⟨z0, z1, z2⟩ := HZ.out w5 HO52.out
        clear hm5 ho5 hm hos1 hos2 hb HDO HZ y0 y1 y2
        go_wp2_with fail
        refine Calls.mono (Hid.out HDO2 _ HM5.out) ?_
        rintro e w6 ⟨rfl, hm6, ho6⟩
        have HM6 : Hid (MemIs w6 L act2) := hm6
        have HO61 : Hid (OwnStps w6 w2.heap.size (.slice (some ⟨g1, 0, none⟩) sn1 vc) S1) := HO51.out.only ho6 HALL.out
        have HO62 : Hid (OwnStps w6 w2.heap.size (.slice (some ⟨g2, 0, none⟩) sn2 uc) S2) := HO52.out.only ho6 HALL.out
        have HB6 : Hid (Below w.heap.size w w6) := HB5.out.trans (ho6.below HB5.out.size HL.out)
        clear hm6 ho6 HM5 HO51 HO52 HB5 HDO2 z0 z1 z2
        go_wp2
        go_roundw
        case rel => exact ⟨j + 1, act2, by omega, by go_num, HM6.out, (by show runP m0 (inTurn (S1.take n1') (S2.take n2') (j + 1)) = _; rw [HT.out]; exact HRY.out), HO61.out, HO62.out, HB6.out, HCC.out⟩
        case measure => simp [intOf]; omega
      · have hy2 : ¬ ((j : Int) < (n2' : Int)) := by omega
        have HT : Hid (inTurn (S1.take n1') (S2.take n2') (j + 1) = inTurn (S1.take n1') (S2.take n2') j ++ [S1.getD j ⟨0, 0, 0⟩]) := by
          have := turn_left (X := S1.take n1') (Y := S2.take n2') (j := j) (by rw [HLX.out]; exact hx) (by rw [HLY.out]; exact hy)
          rw [take_at hx] at this; exact this
        have HRX : Hid _ := hrX
        obtain ⟨s, hs⟩ : ∃ s, S1.getD j ⟨0, 0, 0⟩ = s := ⟨_, rfl⟩
        rw [hs] at y0 y1 y2 hdo HRX HT hac
        obtain ⟨K1, A1, V1⟩ := s
        obtain ⟨act1, hact1⟩ : ∃ r, Mj.act ⟨K1, A1, V1⟩ = r := ⟨_, rfl⟩
        rw [hact1] at HRX hdo hac
        have HDO : Hid (Calls Try.prog 21 #[.pointer (some ⟨L.mb, 0, none⟩), .agg #[.int .i64 K1, .int .i64 A1, .int .u64 V1]] wr fun e w' => e = .returned (.int .i64 0) ∧ MemIs w' L act1 ∧ Only L.blocks wr w') := hdo
        have HCC : Hid (act1.calls ≤ 2 * (j + 1)) := by show act1.calls ≤ 2 * (j + 1); omega
        clear hdo hs hact1 hos1' hrun haX hrX hmX hfX hac hcj
        go_wp2_with fail
        refine Calls.mono (Hid.out HDO) ?_
        rintro e w5 ⟨rfl, hm5, ho5⟩
        have HM5 : Hid (MemIs w5 L act1) := hm5
        have HO51 : Hid (OwnStps w5 w2.heap.size (.slice (some ⟨g1, 0, none⟩) sn1 vc) S1) := hos1.out.only ho5 HALL.out
        have HO52 : Hid (OwnStps w5 w2.heap.size (.slice ua sn2 uc) S2) := hos2.out.only ho5 HALL.out
        have HB5 : Hid (Below w.heap.size w w5) := hb.out.trans (ho5.below hb.out.size HL.out)
        clear hm5 ho5 hm hos1 hos2 hb HDO y0 y1 y2
        go_wp2
        go_roundw
        case rel => exact ⟨j + 1, act1, by omega, by go_num, HM5.out, (by show runP m0 (inTurn (S1.take n1') (S2.take n2') (j + 1)) = _; rw [HT.out]; exact HRX.out), HO51.out, HO52.out, HB5.out, HCC.out⟩
        case measure => simp [intOf]; omega
    · have hx2 : ¬ ((j : Int) < (n1' : Int)) := by omega
      by_cases hy : j < n2'
      · have hy2 : (j : Int) < (n2' : Int) := by omega
        rcases hua with h0 | ⟨g2, rfl, hg2⟩
        · omega
        have hy3 : (j : Int) < (sn2 : Int) := by omega
        have hjl2 : j < S2.length := by have := HN2.out; omega
        have hos2' : OwnStps wr w2.heap.size (.slice (some ⟨g2, 0, none⟩) S2.length uc) S2 := by rw [HN2.out]; exact hos2.out
        obtain ⟨y0, y1, y2⟩ := stp_at hos2' j hjl2
        have hmY : (S2.take n2').getD j ⟨0, 0, 0⟩ ∈ S2.take n2' := getD_stp (by rw [HLY.out]; exact hy)
        have hfY := HFY.out _ hmY
        rw [take_at hy] at hfY
        obtain ⟨haY, hrY⟩ := step_of hrun.out hfY HX.out.1 HX.out.2.1
        have HCJ := hcj.out
        have hdo := do_any L Mj (S2.getD j ⟨0, 0, 0⟩) wr hm.out (by omega) hfY.1
        rw [haY] at hdo
        have hac := act_calls Mj (S2.getD j ⟨0, 0, 0⟩)
        have HT : Hid (inTurn (S1.take n1') (S2.take n2') (j + 1) = inTurn (S1.take n1') (S2.take n2') j ++ [S2.getD j ⟨0, 0, 0⟩]) := by
          have := turn_right (X := S1.take n1') (Y := S2.take n2') (j := j) (by rw [HLX.out]; exact hx) (by rw [HLY.out]; exact hy)
          rw [take_at hy] at this; exact this
        have HRX : Hid _ := hrY
        obtain ⟨s, hs⟩ : ∃ s, S2.getD j ⟨0, 0, 0⟩ = s := ⟨_, rfl⟩
        rw [hs] at y0 y1 y2 hdo HRX HT hac
        obtain ⟨K1, A1, V1⟩ := s
        obtain ⟨act1, hact1⟩ : ∃ r, Mj.act ⟨K1, A1, V1⟩ = r := ⟨_, rfl⟩
        rw [hact1] at HRX hdo hac
        have HDO : Hid (Calls Try.prog 21 #[.pointer (some ⟨L.mb, 0, none⟩), .agg #[.int .i64 K1, .int .i64 A1, .int .u64 V1]] wr fun e w' => e = .returned (.int .i64 0) ∧ MemIs w' L act1 ∧ Only L.blocks wr w') := hdo
        have HCC : Hid (act1.calls ≤ 2 * (j + 1)) := by show act1.calls ≤ 2 * (j + 1); omega
        clear hdo hs hact1 hos2' hrun haY hrY hmY hfY hac hcj
        go_wp2_with fail
        refine Calls.mono (Hid.out HDO) ?_
        rintro e w5 ⟨rfl, hm5, ho5⟩
        have HM5 : Hid (MemIs w5 L act1) := hm5
        have HO51 : Hid (OwnStps w5 w2.heap.size (.slice va sn1 vc) S1) := hos1.out.only ho5 HALL.out
        have HO52 : Hid (OwnStps w5 w2.heap.size (.slice (some ⟨g2, 0, none⟩) sn2 uc) S2) := hos2.out.only ho5 HALL.out
        have HB5 : Hid (Below w.heap.size w w5) := hb.out.trans (ho5.below hb.out.size HL.out)
        clear hm5 ho5 hm hos1 hos2 hb HDO y0 y1 y2
        go_wp2
        go_roundw
        case rel => exact ⟨j + 1, act1, by omega, by go_num, HM5.out, (by show runP m0 (inTurn (S1.take n1') (S2.take n2') (j + 1)) = _; rw [HT.out]; exact HRX.out), HO51.out, HO52.out, HB5.out, HCC.out⟩
        case measure => simp [intOf]; omega
      · have hy2 : ¬ ((j : Int) < (n2' : Int)) := by omega
        have HTT : Hid _ := two_math HSA.out HSB.out HOA.out HOB.out HXS.out HX.out.2.1 (j := j) (by rw [HLX.out]; omega) (by rw [HLY.out]; omega) hrun.out hm.out.looseIn [first]
        have HMJ : Hid (MemIs wr L Mj) := hm.out
        have HBJ : Hid (Below w.heap.size w wr) := hb.out
        have hcl2 : Mj.calls ≤ 10000 := by have := hcj.out; omega
        clear hrun hos1 hos2 hm hb hcj hva hua
        go_wp2_with fail
        have hcr := crash_any L Mj _ [first] _ (HMJ.out.alloc (.cells #[.bool first] 4)) (by omega) (keep_one first HMJ.out.all_lt) (by simp)
        refine Calls.mono hcr ?_
        rintro e w5 ⟨rfl, hm5, ho5⟩
        have hb5 : Below w.heap.size w w5 := (HBJ.out.alloc HBJ.out.size _).trans (ho5.below (by have := HBJ.out.size; simp; omega) HL.out)
        have hrc := recover_any L (Mj.crash [first]) w5 hm5 (by show Mj.calls < _; omega)
        have HRC : Hid (Calls Try.prog 15 #[.pointer (some ⟨L.mb, 0, none⟩)] w5 fun e w' => ∃ k r M', e = .returned (.tuple #[.int .i64 k, .int .i64 r]) ∧ MemIs w' L M' ∧ Only L.blocks w5 w' ∧ RecSpec (Mj.crash [first]) k r M') := hrc
        clear hcr hm5 ho5 hrc HMJ HBJ hx hy hx2 hy2
        go_wp2_with fail
        refine Calls.mono (Hid.out HRC) ?_
        rintro e w6 ⟨k, r, M', rfl, hm6, ho6, hsp⟩
        obtain ⟨rfl, hk, h296, h792, hFB, hFA⟩ := HTT.out k r M' hsp
        have HB6 : Hid (Below w.heap.size w w6) := hb5.trans (ho6.below hb5.size HL.out)
        have HMD : Hid (∀ m, MemIs (w6.drewN m) L M') := fun m => hm6.of_blocks fun _ _ _ => rfl
        have H296 : Hid (M'.read 296 = 0) := h296
        have H792 : Hid (M'.read 792 = 0) := h792
        have HFB : Hid (∀ c ∈ bb, M'.read c.1 = c.2) := hFB
        have HFA : Hid (∀ c ∈ aa, (∀ d ∈ bb, d.1 ≠ c.1) → M'.read c.1 = c.2) := hFA
        have HCA6 : Hid (ChgsAt w6 a aa) := HCA.out.later (Nat.le_refl _) HB6.out
        have HCB6 : Hid (ChgsAt w6 b bb) := HCB.out.later (Nat.le_refl _) HB6.out
        have HMB : Hid (madeB M' bb (fun i => (bb.getD i (0, 0)).2) = true) := madeB_yes.2 fun i hi => HFB.out _ (getD_in hi)
        have HK : Hid (k = (if aa = [] then 0 else 1) + (if bb = [] then 0 else 1)) := hk
        clear hm6 ho6 hsp h296 h792 hFB hFA hb5 HRC HTT hk
        have HAE : Hid (aa = [] ↔ ka = 0) := by
          show aa = [] ↔ ka = 0
          rw [← HKA.out]; exact List.length_eq_zero_iff.symm
        have HBE : Hid (bb = [] ↔ kb = 0) := by
          show bb = [] ↔ kb = 0
          rw [← HKB.out]; exact List.length_eq_zero_iff.symm
        by_cases hka : ka = 0
        · by_cases hkb : kb = 0
          · have hk := HK.out
            rw [if_pos (HAE.out.2 hka), if_pos (HBE.out.2 hkb)] at hk
            have hkw : k = 0 := hk
            subst hkw
            clear hk
            subst hka
            subst hkb
            have HMA : Hid (∀ m, Calls Try.prog 26 #[.pointer (some ⟨L.mb, 0, none⟩), .slice none 0 0, .slice b 0 cb, .bool true] (w6.drewN m) fun e w' => e = .returned (.bool true) ∧ w' = w6.drewN m) := fun m => by
              have := made_any L M' 0 (fun _ => 0) (.slice none 0 0) true b cb bb (fun i => (bb.getD i (0, 0)).2) (w6.drewN m) (HMD.out m) (HCB6.out.later (Nat.le_refl _) (below_drewN (Below.refl _ _) m)) HOB.out (by rw [HKB.out]; omega) (.inl ⟨rfl, fun _ _ => rfl⟩)
              rw [HMB.out, HKB.out] at this; exact this
            have HRD : Hid (∀ m k, (Lit.int .i64 k).wf = true → Calls Try.prog 27 #[.pointer (some ⟨L.mb, 0, none⟩), .int .i64 k] (w6.drewN m) fun e w' => e = .returned (.int .u64 (M'.read k)) ∧ w' = w6.drewN m) := fun m k hk => read_any L M' k _ (HMD.out m) hk
            go_wp2
            go_loopw [18, 19, 20] (fun i _ _ wr => ∃ p m : Nat, p ≤ 0 ∧ i = .int .i64 p ∧ wr = w6.drewN m) (fun i _ _ _ => 0 - (intOf i).toNat)
            case atStart => exact ⟨0, 0, Nat.zero_le _, rfl, rfl⟩
            case round =>
              obtain ⟨p, m, hp, rfl, rfl⟩ := hrel
              by_cases hpk : p < 0
              · exact absurd hpk (Nat.not_lt_zero p)
              · obtain rfl : p = 0 := by omega
                go_wp2_with (first
                  | (go_at_call 26; refine (Hid.out HMA _).mono ?_; rintro e w' ⟨rfl, hw⟩; obtain rfl := hw.symm)
                  | (go_at_call 27; refine (Hid.out HRD _ _ (by decide)).mono ?_; rintro e w' ⟨rfl, hw⟩; obtain rfl := hw.symm; first | rw [H296.out] | rw [H792.out])
                  | go_in)
                go_ret
                exact ⟨rfl, below_drewN HB6.out _⟩
          · have hk := HK.out
            rw [if_pos (HAE.out.2 hka), if_neg (fun e => hkb (HBE.out.1 e))] at hk
            have hkw : k = 1 := hk
            subst hkw
            clear hk
            subst hka
            have g2 : (0 : Int) < (kb : Int) := by omega
            have g2' : 0 < kb := by omega
            have HMA : Hid (∀ m, Calls Try.prog 26 #[.pointer (some ⟨L.mb, 0, none⟩), .slice none 0 0, .slice b kb cb, .bool true] (w6.drewN m) fun e w' => e = .returned (.bool true) ∧ w' = w6.drewN m) := fun m => by
              have := made_any L M' 0 (fun _ => 0) (.slice none 0 0) true b cb bb (fun i => (bb.getD i (0, 0)).2) (w6.drewN m) (HMD.out m) (HCB6.out.later (Nat.le_refl _) (below_drewN (Below.refl _ _) m)) HOB.out (by rw [HKB.out]; omega) (.inl ⟨rfl, fun _ _ => rfl⟩)
              rw [HMB.out, HKB.out] at this; exact this
            have HRD : Hid (∀ m k, (Lit.int .i64 k).wf = true → Calls Try.prog 27 #[.pointer (some ⟨L.mb, 0, none⟩), .int .i64 k] (w6.drewN m) fun e w' => e = .returned (.int .u64 (M'.read k)) ∧ w' = w6.drewN m) := fun m k hk => read_any L M' k _ (HMD.out m) hk
            go_wp2
            go_loopw [18, 19, 20] (fun i _ _ wr => ∃ p m : Nat, p ≤ 0 ∧ i = .int .i64 p ∧ wr = w6.drewN m) (fun i _ _ _ => 0 - (intOf i).toNat)
            case atStart => exact ⟨0, 0, Nat.zero_le _, rfl, rfl⟩
            case round =>
              obtain ⟨p, m, hp, rfl, rfl⟩ := hrel
              by_cases hpk : p < 0
              · exact absurd hpk (Nat.not_lt_zero p)
              · obtain rfl : p = 0 := by omega
                go_wp2_with (first
                  | (go_at_call 26; refine (Hid.out HMA _).mono ?_; rintro e w' ⟨rfl, hw⟩; obtain rfl := hw.symm)
                  | (go_at_call 27; refine (Hid.out HRD _ _ (by decide)).mono ?_; rintro e w' ⟨rfl, hw⟩; obtain rfl := hw.symm; first | rw [H296.out] | rw [H792.out])
                  | go_in)
                go_ret
                exact ⟨rfl, below_drewN HB6.out _⟩
        · by_cases hkb : kb = 0
          · have hk := HK.out
            rw [if_neg (fun e => hka (HAE.out.1 e)), if_pos (HBE.out.2 hkb)] at hk
            have hkw : k = 1 := hk
            subst hkw
            clear hk
            have g1 : (0 : Int) < (ka : Int) := by omega
            have g1' : 0 < ka := by omega
            subst hkb
            have HMA : Hid (∀ m, Calls Try.prog 26 #[.pointer (some ⟨L.mb, 0, none⟩), .slice none 0 0, .slice b 0 cb, .bool true] (w6.drewN m) fun e w' => e = .returned (.bool true) ∧ w' = w6.drewN m) := fun m => by
              have := made_any L M' 0 (fun _ => 0) (.slice none 0 0) true b cb bb (fun i => (bb.getD i (0, 0)).2) (w6.drewN m) (HMD.out m) (HCB6.out.later (Nat.le_refl _) (below_drewN (Below.refl _ _) m)) HOB.out (by rw [HKB.out]; omega) (.inl ⟨rfl, fun _ _ => rfl⟩)
              rw [HMB.out, HKB.out] at this; exact this
            have HRD : Hid (∀ m k, (Lit.int .i64 k).wf = true → Calls Try.prog 27 #[.pointer (some ⟨L.mb, 0, none⟩), .int .i64 k] (w6.drewN m) fun e w' => e = .returned (.int .u64 (M'.read k)) ∧ w' = w6.drewN m) := fun m k hk => read_any L M' k _ (HMD.out m) hk
            go_wp2
            go_loopw [18, 19, 20] (fun i _ _ wr => ∃ p m : Nat, p ≤ ka ∧ i = .int .i64 p ∧ wr = w6.drewN m) (fun i _ _ _ => ka - (intOf i).toNat)
            case atStart => exact ⟨0, 0, Nat.zero_le _, rfl, rfl⟩
            case round =>
              obtain ⟨p, m, hp, rfl, rfl⟩ := hrel
              by_cases hpk : p < ka
              · obtain ⟨ba, oa, rfl, hba, hca⟩ := HCA6.out.resolve_left (fun e => by have := HAE.out.1 e; omega)
                have hpk2 : (p : Int) < ((ka : Nat) : Int) := by omega
                have x1 := (hca p (by rw [HKA.out]; exact hpk)).1
                have x2 := (hca p (by rw [HKA.out]; exact hpk)).2
                have hwf := (HOA.out p (by rw [HKA.out]; exact hpk)).1
                have HFP : Hid ((∀ d ∈ bb, d.1 ≠ (aa.getD p (0, 0)).1) → M'.read (aa.getD p (0, 0)).1 = (aa.getD p (0, 0)).2) := HFA.out _ (getD_in (by rw [HKA.out]; exact hpk))
                obtain ⟨A, hA⟩ : ∃ x, (aa.getD p (0, 0)).1 = x := ⟨_, rfl⟩
                obtain ⟨VA, hVA⟩ : ∃ x, (aa.getD p (0, 0)).2 = x := ⟨_, rfl⟩
                rw [hA] at x1 hwf HFP
                rw [hVA] at x2 HFP
                have HVF : Hid (∀ V, Vrel bb A VA 0 V → M'.read A = V) := fun V hv => by
                  rcases hv with ⟨i, h1, h2, h3⟩ | ⟨h1, h2⟩
                  · rw [← h2, h3]; exact HFB.out _ (getD_in (by rw [HKB.out]; exact h1))
                  · rw [h2]
                    refine HFP.out fun d hd => ?_
                    obtain ⟨i, hi, e⟩ := getD_mem' hd
                    rw [← e]; exact h1 i (by rw [HKB.out] at hi; exact hi)
                have HRA : Hid (∀ m, Calls Try.prog 27 #[.pointer (some ⟨L.mb, 0, none⟩), .int .i64 A] (w6.drewN m) fun e w' => e = .returned (.int .u64 (M'.read A)) ∧ w' = w6.drewN m) := fun m => HRD.out m A hwf
                clear hca hA hVA hwf
                go_wp2
                go_loopw [19, 20] (fun v q wr => ∃ (j m2 : Nat) (V : Int), j ≤ 0 ∧ q = .int .i64 j ∧ v = .int .u64 V ∧ wr = w6.drewN m2 ∧ Hid (Vrel bb A VA j V)) (fun _ q _ => 0 - (intOf q).toNat)
                case atStart => exact ⟨0, m, VA, Nat.zero_le _, rfl, rfl, rfl, .inr ⟨fun i hi => absurd hi (Nat.not_lt_zero i), rfl⟩⟩
                case round =>
                  obtain ⟨j, m2, V, hj, rfl, rfl, rfl, hv⟩ := hrel
                  by_cases hjk : j < 0
                  · exact absurd hjk (Nat.not_lt_zero j)
                  · obtain rfl : j = 0 := by omega
                    have HRV : Hid (M'.read A = V) := HVF.out V hv.out
                    have q1 : (V != V) = false := by simp
                    go_wp2_with (first | (go_at_call 27; refine (Hid.out HRA _).mono ?_; rintro e w' ⟨rfl, hw⟩; obtain rfl := hw.symm; rw [HRV.out]) | go_in)
                    go_roundw
                    case rel => exact ⟨p + 1, m2, by omega, by go_num, by first | rfl | trivial⟩
                    case measure => first | (simp only [intOf]; omega) | (simp; done) | (simp [intOf]; done) | (simp [intOf]; omega)
              · obtain rfl : p = ka := by omega
                go_wp2_with (first
                  | (go_at_call 26; refine (Hid.out HMA _).mono ?_; rintro e w' ⟨rfl, hw⟩; obtain rfl := hw.symm)
                  | (go_at_call 27; refine (Hid.out HRD _ _ (by decide)).mono ?_; rintro e w' ⟨rfl, hw⟩; obtain rfl := hw.symm; first | rw [H296.out] | rw [H792.out])
                  | go_in)
                go_ret
                exact ⟨rfl, below_drewN HB6.out _⟩
          · have hk := HK.out
            rw [if_neg (fun e => hka (HAE.out.1 e)), if_neg (fun e => hkb (HBE.out.1 e))] at hk
            have hkw : k = 2 := hk
            subst hkw
            clear hk
            have g1 : (0 : Int) < (ka : Int) := by omega
            have g1' : 0 < ka := by omega
            have g2 : (0 : Int) < (kb : Int) := by omega
            have g2' : 0 < kb := by omega
            have HMA : Hid (∀ m, Calls Try.prog 26 #[.pointer (some ⟨L.mb, 0, none⟩), .slice none 0 0, .slice b kb cb, .bool true] (w6.drewN m) fun e w' => e = .returned (.bool true) ∧ w' = w6.drewN m) := fun m => by
              have := made_any L M' 0 (fun _ => 0) (.slice none 0 0) true b cb bb (fun i => (bb.getD i (0, 0)).2) (w6.drewN m) (HMD.out m) (HCB6.out.later (Nat.le_refl _) (below_drewN (Below.refl _ _) m)) HOB.out (by rw [HKB.out]; omega) (.inl ⟨rfl, fun _ _ => rfl⟩)
              rw [HMB.out, HKB.out] at this; exact this
            have HRD : Hid (∀ m k, (Lit.int .i64 k).wf = true → Calls Try.prog 27 #[.pointer (some ⟨L.mb, 0, none⟩), .int .i64 k] (w6.drewN m) fun e w' => e = .returned (.int .u64 (M'.read k)) ∧ w' = w6.drewN m) := fun m k hk => read_any L M' k _ (HMD.out m) hk
            go_wp2
            go_loopw [18, 19, 20] (fun i _ _ wr => ∃ p m : Nat, p ≤ ka ∧ i = .int .i64 p ∧ wr = w6.drewN m) (fun i _ _ _ => ka - (intOf i).toNat)
            case atStart => exact ⟨0, 0, Nat.zero_le _, rfl, rfl⟩
            case round =>
              obtain ⟨p, m, hp, rfl, rfl⟩ := hrel
              by_cases hpk : p < ka
              · obtain ⟨ba, oa, rfl, hba, hca⟩ := HCA6.out.resolve_left (fun e => by have := HAE.out.1 e; omega)
                have hpk2 : (p : Int) < ((ka : Nat) : Int) := by omega
                have x1 := (hca p (by rw [HKA.out]; exact hpk)).1
                have x2 := (hca p (by rw [HKA.out]; exact hpk)).2
                have hwf := (HOA.out p (by rw [HKA.out]; exact hpk)).1
                have HFP : Hid ((∀ d ∈ bb, d.1 ≠ (aa.getD p (0, 0)).1) → M'.read (aa.getD p (0, 0)).1 = (aa.getD p (0, 0)).2) := HFA.out _ (getD_in (by rw [HKA.out]; exact hpk))
                obtain ⟨A, hA⟩ : ∃ x, (aa.getD p (0, 0)).1 = x := ⟨_, rfl⟩
                obtain ⟨VA, hVA⟩ : ∃ x, (aa.getD p (0, 0)).2 = x := ⟨_, rfl⟩
                rw [hA] at x1 hwf HFP
                rw [hVA] at x2 HFP
                have HVF : Hid (∀ V, Vrel bb A VA kb V → M'.read A = V) := fun V hv => by
                  rcases hv with ⟨i, h1, h2, h3⟩ | ⟨h1, h2⟩
                  · rw [← h2, h3]; exact HFB.out _ (getD_in (by rw [HKB.out]; exact h1))
                  · rw [h2]
                    refine HFP.out fun d hd => ?_
                    obtain ⟨i, hi, e⟩ := getD_mem' hd
                    rw [← e]; exact h1 i (by rw [HKB.out] at hi; exact hi)
                have HRA : Hid (∀ m, Calls Try.prog 27 #[.pointer (some ⟨L.mb, 0, none⟩), .int .i64 A] (w6.drewN m) fun e w' => e = .returned (.int .u64 (M'.read A)) ∧ w' = w6.drewN m) := fun m => HRD.out m A hwf
                clear hca hA hVA hwf
                go_wp2
                go_loopw [19, 20] (fun v q wr => ∃ (j m2 : Nat) (V : Int), j ≤ kb ∧ q = .int .i64 j ∧ v = .int .u64 V ∧ wr = w6.drewN m2 ∧ Hid (Vrel bb A VA j V)) (fun _ q _ => kb - (intOf q).toNat)
                case atStart => exact ⟨0, m, VA, Nat.zero_le _, rfl, rfl, rfl, .inr ⟨fun i hi => absurd hi (Nat.not_lt_zero i), rfl⟩⟩
                case round =>
                  obtain ⟨j, m2, V, hj, rfl, rfl, rfl, hv⟩ := hrel
                  by_cases hjk : j < kb
                  · obtain ⟨bx, ob, rfl, hbx, hcb⟩ := HCB6.out.resolve_left (fun e => by have := HBE.out.1 e; omega)
                    have hjk2 : (j : Int) < ((kb : Nat) : Int) := by omega
                    have y1 := (hcb j (by rw [HKB.out]; exact hjk)).1
                    have y2 := (hcb j (by rw [HKB.out]; exact hjk)).2
                    have HVY : Hid ((bb.getD j (0, 0)).1 = A → Vrel bb A VA (j + 1) (bb.getD j (0, 0)).2) := fun h => Vrel.yes (V := V) h
                    have HVN : Hid ((bb.getD j (0, 0)).1 ≠ A → Vrel bb A VA (j + 1) V) := fun h => Vrel.no hv.out h
                    obtain ⟨X, hX⟩ : ∃ x, (bb.getD j (0, 0)).1 = x := ⟨_, rfl⟩
                    obtain ⟨Y, hY⟩ : ∃ x, (bb.getD j (0, 0)).2 = x := ⟨_, rfl⟩
                    rw [hX] at y1 HVY HVN
                    rw [hY] at y2 HVY
                    clear hcb hX hY
                    by_cases hXA : X = A
                    · subst hXA
                      have HVZ : Hid (Vrel bb X VA (j + 1) Y) := HVY.out rfl
                      clear HVY HVN
                      go_wp2
                      go_quiet (fail)
                      go_wp2
                      go_roundw
                      case rel => exact ⟨j + 1, _, Y, by omega, by go_num, rfl, by first | rfl | exact World.drewN_drewN .., HVZ.out⟩
                      case measure => first | (simp only [intOf]; omega) | (simp; done) | (simp [intOf]; done) | (simp [intOf]; omega)
                    · have hb2 : (X == A) = false := by simpa using hXA
                      have HVZ : Hid (Vrel bb A VA (j + 1) V) := HVN.out hXA
                      clear HVY HVN hXA
                      go_wp2
                      go_quiet (fail)
                      go_wp2
                      go_roundw
                      case rel => exact ⟨j + 1, _, V, by omega, by go_num, rfl, by first | rfl | exact World.drewN_drewN .., HVZ.out⟩
                      case measure => first | (simp only [intOf]; omega) | (simp; done) | (simp [intOf]; done) | (simp [intOf]; omega)
                  · obtain rfl : j = kb := by omega
                    have HRV : Hid (M'.read A = V) := HVF.out V hv.out
                    have q1 : (V != V) = false := by simp
                    go_wp2_with (first | (go_at_call 27; refine (Hid.out HRA _).mono ?_; rintro e w' ⟨rfl, hw⟩; obtain rfl := hw.symm; rw [HRV.out]) | go_in)
                    go_roundw
                    case rel => exact ⟨p + 1, m2, by omega, by go_num, by first | rfl | trivial⟩
                    case measure => first | (simp only [intOf]; omega) | (simp; done) | (simp [intOf]; done) | (simp [intOf]; omega)
              · obtain rfl : p = ka := by omega
                go_wp2_with (first
                  | (go_at_call 26; refine (Hid.out HMA _).mono ?_; rintro e w' ⟨rfl, hw⟩; obtain rfl := hw.symm)
                  | (go_at_call 27; refine (Hid.out HRD _ _ (by decide)).mono ?_; rintro e w' ⟨rfl, hw⟩; obtain rfl := hw.symm; first | rw [H296.out] | rw [H792.out])
                  | go_in)
                go_ret
                exact ⟨rfl, below_drewN HB6.out _⟩

set_option maxRecDepth 100000 in
theorem lifted (os : Os) (started : os.Started) (H : Type) (enc : TypeId × Value → H) :
    ReturnsInHanded {} Try.checked os 7 .any (Rows.sealTwoSpec.pre6 enc Try.prog Try.f7 Rows.sealTwoRow.domain false) (Rows.sealTwoSpec.post enc Try.prog Try.f7 false true false false) := by
  refine returnsInHanded_of_change (C := Try.checked) own started (by kernel_rfl) Try.func7
    (ChangeSpec.witness6 (enc := enc) (C := Try.checked) false ⟨#[], #[.slice none 0 0, .slice none 0 0, .bool false], []⟩ 8 (by kernel_rfl) (by kernel_rfl) (by kernel_rfl) (by kernel_rfl)) ?_
  intro W base args ds gs before hval0 hW hcnd _
  have hval : ∀ (j : Nat) t v, Try.f7.params[j]? = some t → args[j]? = some v → Value.okWide Try.prog W .any base t v := hval0
  have hW' := hW
  obtain ⟨p, q, hA0, hV, rfl, hfz, hnd⟩ := hW
  have hA : DataW.TrodAll enc Try.prog W 0 (fun _ => true) true Try.f7.params.toList args.toList ds p := hA0
  rw [Try.params7] at hA hval
  obtain ⟨v0, vs0, d0, ds0, p0, q0, hargs, rfl, rfl, h0, r0⟩ := trodAll_cons hA
  obtain ⟨v1, vs1, d1, ds1, p1, q1, rfl, rfl, rfl, h1, r1⟩ := trodAll_cons r0
  obtain ⟨v2, vs2, d2, ds2, p2, q2, rfl, rfl, rfl, h2, r2⟩ := trodAll_cons r1
  obtain ⟨rfl, rfl, rfl⟩ := trodAll_nil r2
  obtain rfl : args = #[v0, v1, v2] := by cases args; simp_all
  obtain ⟨rfl, rfl⟩ := trodVars_none hV
  have k0 := h0
  have lt0 : ∀ x ∈ p0, x.block < W.heap.size := by obtain ⟨m, hm⟩ := k0; exact DataW.trod_lt m _ _ _ hm
  obtain ⟨a0, len0, cap0, rfl⟩ := okWide_slice Try.underlying23 (hval 0 23 v0 rfl rfl)
  obtain ⟨cs0, hl0, w0⟩ := open_chgs rfl h0
  subst hl0
  have k1 := h1
  have lt1 : ∀ x ∈ p1, x.block < W.heap.size := by obtain ⟨m, hm⟩ := k1; exact DataW.trod_lt m _ _ _ hm
  obtain ⟨a1, len1, cap1, rfl⟩ := okWide_slice Try.underlying23 (hval 1 23 v1 rfl rfl)
  obtain ⟨cs1, hl1, w1⟩ := open_chgs rfl h1
  subst hl1
  obtain ⟨a2, rfl, rfl, rfl⟩ := open_bool Try.underlying4 (hval 2 4 v2 rfl rfl) h2
  clear hA0 hval0
  refine (walk a0 cap0 cs0 a1 cap1 cs1 a2 W w0 w1).mono fun e W' ⟨he, bel⟩ => ?_
  subst he
  exact ⟨_, rfl, _, _, _, [], _, [], hW', trodAll_mk1 (shut_bool Try.underlying4 _), (trodAll_cons_mk (Below.trod laidOut (by kernel_rfl) (of_decide_eq_true (by kernel_rfl)) k0 bel lt0) (trodAll_cons_mk (Below.trod laidOut (by kernel_rfl) (of_decide_eq_true (by kernel_rfl)) k1 bel lt1) (trodAll_cons_mk (shut_bool Try.underlying4 _) trodAll_mk0))), rfl, bel.frame _, fun h => by cases h⟩

theorem over : Rows.sealTwoRow.holds Try.pinned (OpenSpec.ofChange Rows.sealTwoSpec) :=
  OpenClaim.holds_of_wide 7 Try.f7 rfl rfl rfl rfl rfl rfl rfl ⟨rfl, rfl, rfl, rfl, rfl⟩ rfl rfl rfl rfl rfl (by kernel_rfl) Try.func7 (by kernel_rfl)
    (of_decide_eq_true (by kernel_rfl)) (by unfold Func.isWrapper; first | (rw [if_pos (by decide +kernel)]; kernel_rfl) | (rw [if_neg (by decide +kernel)]; exact ⟨rfl, rfl⟩))
    (fun os started H enc _ => lifted os started H enc)

theorem proved : Rows.SealTwoSaid := over
#print axioms proved
end Go.Proofs.Ytfalchacdebdpaa.sealTwo
