/- Contracts of notes, status and making. -/
import Derived.Test.YtfalchacdebdpaaSealD
namespace Go.Proofs.Ytfalchacdebdpaa
open Go.RowKit Go.Maps Go.ChangeMaps Go.Shelf

theorem Try.info40 : (Try.prog.info? 40).map (fun i => (i.zero, i.size, i.bytes)) = some (some (.agg #[.int .i64 0, .int .u64 0]), 2, 16) := by kernel_rfl

/-- Changes as cells. -/
def chgVals (cs : List Chg) : List Value := cs.flatMap fun c => [.int .i64 c.1, .int .u64 c.2]
theorem chgVals_append (a b : List Chg) : chgVals (a ++ b) = chgVals a ++ chgVals b := by simp [chgVals]
theorem chgVals_len (a : List Chg) : (chgVals a).length = a.length * 2 := by
  induction a with
  | nil => rfl
  | cons x a ih => simp only [chgVals, List.flatMap_cons, List.length_append, List.length_cons, List.length_nil] at *; omega
/-- A row of changes of one's own. -/
def OwnChgs (w : World) (base : Nat) (v : Value) (cs : List Chg) : Prop := w.ownsRow base 40 2 v cs.length (chgVals cs)

theorem chgVals_at (cs : List Chg) (i : Nat) (hi : i < cs.length) : (chgVals cs)[i * 2]? = some (.int .i64 (cs.getD i (0, 0)).1) ∧ (chgVals cs)[i * 2 + 1]? = some (.int .u64 (cs.getD i (0, 0)).2) := by
  induction cs generalizing i with
  | nil => simp at hi
  | cons s cs ih =>
    have e : chgVals (s :: cs) = [.int .i64 s.1, .int .u64 s.2] ++ chgVals cs := rfl
    cases i with
    | zero => rw [e]; simp
    | succ i =>
      have := ih i (by simpa using hi)
      rw [e, List.getElem?_append_right (by simp; omega), List.getElem?_append_right (by simp; omega)]
      have e1 : (i + 1) * 2 - 2 = i * 2 := by omega
      have e2 : (i + 1) * 2 + 1 - 2 = i * 2 + 1 := by omega
      simp only [List.length_cons, List.length_nil, Nat.zero_add, Nat.reduceAdd, e1, e2]
      simpa using this

theorem OwnChgs.at {w : World} {base : Nat} {v : Value} {cs : List Chg} (h : OwnChgs w base v cs) : ∃ a c, v = .slice a cs.length c ∧ cs.length ≤ c ∧ ChgsAt w a cs ∧ ∀ b, a.map (·.block) = some b → base ≤ b ∧ b < w.heap.size := by
  have h' := h
  rcases h.2 with ⟨rfl, h0⟩ | ⟨g, cap, cur, rfl, _, _, hle, _⟩
  · exact ⟨none, 0, by rw [h0], by omega, .inl (List.length_eq_zero_iff.1 h0), fun b e => by cases e⟩
  · refine ⟨_, cap, rfl, hle, .inr ⟨g, 0, rfl, (h'.lt g rfl).2, fun i hi => ?_⟩, fun b e => by cases e; exact h'.lt g rfl⟩
    have := chgVals_at cs i hi
    rw [Nat.zero_add, World.ownsRow.cellAt h' (i * 2) (by omega), World.ownsRow.cellAt h' (i * 2 + 1) (by omega)]
    exact this

theorem OwnStps.later {w w' : World} {base : Nat} {v : Value} {ss : List Stp} (h : OwnStps w base v ss) {B : Nat} (hB : w.heap.size ≤ B) (hb : Below B w w') : OwnStps w' base v ss :=
  own_block h fun g hg => hb.block g (by have := (World.ownsRow.lt h g hg).2; omega)
theorem OwnChgs.later {w w' : World} {base : Nat} {v : Value} {cs : List Chg} (h : OwnChgs w base v cs) {B : Nat} (hB : w.heap.size ≤ B) (hb : Below B w w') : OwnChgs w' base v cs :=
  own_block h fun g hg => hb.block g (by have := (World.ownsRow.lt h g hg).2; omega)

theorem notesTo_succ (log : Int) (cs : List Chg) (k : Nat) : notesTo log cs (k + 1) = notesTo log cs k ++ [(log + 8 + 2 * (k : Int), (cs.getD k (0, 0)).1), (log + 8 + 2 * (k : Int) + 1, (cs.getD k (0, 0)).2)] := by
  simp [notesTo, List.range_succ]
theorem notesTo_len (log : Int) (cs : List Chg) (k : Nat) : (notesTo log cs k).length = 1 + k * 2 := by
  induction k with
  | zero => rfl
  | succ k ih => rw [notesTo_succ, List.length_append, ih]; simp; omega

/-- One change in a new block is a row of one's own. -/
theorem made_one (w : World) (base : Nat) (hb : base ≤ w.heap.size) (x y : Int) : OwnChgs (w.alloc (.cells #[.int .i64 x, .int .u64 y] 40)) base (.slice (some ⟨w.heap.size, 0, none⟩) 1 1) [(x, y)] :=
  ⟨rfl, .inr ⟨w.heap.size, 1, #[.int .i64 x, .int .u64 y], rfl, hb, heap_alloc_new w _, Nat.le_refl _, by unfold maxLen; omega, rfl, rfl⟩⟩

theorem one_at (w : World) (x y : Int) : ChgsAt (w.alloc (.cells #[.int .i64 x, .int .u64 y] 40)) (some ⟨w.heap.size, 0, none⟩) [(x, y)] := by
  refine .inr ⟨w.heap.size, 0, rfl, by simp, fun i hi => ?_⟩
  obtain rfl : i = 0 := by simp only [List.length_cons, List.length_nil] at hi; omega
  simp

theorem four_cells {w : World} {B : Nat} {x y z u : Value} {t : TypeId} (hB : w.heap.size = B) : ∀ (j : Nat) (q : Value), [x, y, z, u][j]? = some q → (w.alloc (.cells #[x, y, z, u] t)).cell? ((⟨B, 0, none⟩ : Addr).add j) = some q := by
  subst hB
  intro j q hj
  match j, hj with
  | 0, hj => simp at hj; subst hj; simp [Addr.add]
  | 1, hj => simp at hj; subst hj; simp [Addr.add]
  | 2, hj => simp at hj; subst hj; simp [Addr.add]
  | 3, hj => simp at hj; subst hj; simp [Addr.add]

set_option maxHeartbeats 2000000 in
theorem notes_any (log : Int) (a : Option Addr) (cap : Nat) (cs : List Chg) (w : World) (h : ChgsAt w a cs) (hin : ∀ i, i < cs.length → 0 ≤ (cs.getD i (0, 0)).1 ∧ (cs.getD i (0, 0)).1 < 2824) (hlen : cs.length ≤ 1000) (hlog : 0 ≤ log ∧ log < 3000) :
    Calls Try.prog 32 #[.int .i64 log, .slice a cs.length cap] w fun e w' => ∃ v, e = .returned v ∧ OwnChgs w' w.heap.size v (notesP log cs) ∧ Below w.heap.size w w' := by
  obtain ⟨i0, hi, hz0, hz1, hz2⟩ := info_parts Try.info40
  obtain ⟨hl0, hl1⟩ := hlog
  have H : Hid (ChgsAt w a cs) := h
  have HP : Hid (notesP log cs = notesTo log cs cs.length) := rfl
  have HZ : Hid (notesTo log cs 0 = [(log + 1, (cs.length : Int))]) := rfl
  obtain ⟨n, hn'⟩ : ∃ n, cs.length = n := ⟨_, rfl⟩
  have HN : Hid (cs.length = n) := hn'
  rw [hn'] at hlen HP HZ hin ⊢
  have HI : Hid (∀ i, i < n → 0 ≤ (cs.getD i (0, 0)).1 ∧ (cs.getD i (0, 0)).1 < 2824) := hin
  clear h hn' hin
  go_enter Try.func32, Try.ntmps32
  go_wp2
  go_loopw [5, 18] (fun v i wr => ∃ k : Nat, k ≤ n ∧ i = .int .i64 k ∧ OwnChgs wr w.heap.size v (notesTo log cs k) ∧ Below w.heap.size w wr) (fun _ i _ => n - (intOf i).toNat)
  case atStart => exact ⟨0, Nat.zero_le _, rfl, by rw [HZ.out]; exact made_one w _ (Nat.le_refl _) _ _, (Below.refl _ _).alloc (Nat.le_refl _) _⟩
  case round =>
    obtain ⟨k, hk, rfl, hown, hnx⟩ := hrel
    have hsl := notesTo_len log cs k
    by_cases hlt : k < n
    · obtain ⟨b, o, rfl, hb, hc⟩ := H.out.resolve_left (fun e => by have := HN.out; rw [e] at this; simp at this; omega)
      have hkn : (k : Int) < (n : Int) := by omega
      have x1 := (hnx.cell (p := ⟨b, o + k * 2, none⟩) hb).trans (hc k (by rw [HN.out]; exact hlt)).1
      have x2 := (hnx.cell (p := ⟨b, o + k * 2 + 1, none⟩) hb).trans (hc k (by rw [HN.out]; exact hlt)).2
      have HS : Hid (notesTo log cs (k + 1) = notesTo log cs k ++ [(log + 8 + 2 * (k : Int), (cs.getD k (0, 0)).1), (log + 8 + 2 * (k : Int) + 1, (cs.getD k (0, 0)).2)]) := notesTo_succ log cs k
      have hr := HI.out k hlt
      clear hc
      obtain ⟨X, hX⟩ : ∃ X, (cs.getD k (0, 0)).1 = X := ⟨_, rfl⟩
      obtain ⟨Y, hY⟩ : ∃ Y, (cs.getD k (0, 0)).2 = Y := ⟨_, rfl⟩
      rw [hX] at x1 HS hr
      rw [hY] at x2 HS
      obtain ⟨hr0, hr1⟩ := hr
      clear hX hY
      go_wp2_with (first
        | (at_builtin; refine wpList_append_own _ rfl _ _ 23 rfl w.heap.size 40 i0 (.agg #[.int .i64 0, .int .u64 0]) 2 16 Try.underlying23 hi hz0 hz1 hz2 rfl (by decide) _ _ _ rfl (World.ownsRow.alloc (World.ownsRow.alloc hown _) _) ⟨_, 0, none⟩ 2 2 [.int .i64 (log + 8 + 2 * (k : Int)), .int .u64 X, .int .i64 (log + 8 + 2 * (k : Int) + 1), .int .u64 Y] rfl rfl ?c1 ?c2 ?c3 ?c4 ?c5 ?_)
        | go_in)
      case c1 => exact four_cells (by simp)
      case c2 => intro u hu; simp at hu; rcases hu with rfl | rfl | rfl | rfl <;> rfl
      case c3 => unfold maxLen; omega
      case c4 => omega
      case c5 => have := hnx.size; simp; omega
      intro v' w1 hown' hgrow _
      have hnx1 : Below w.heap.size w w1 := ((hnx.alloc hnx.size _).alloc (by have := hnx.size; simp; omega) _).grown hgrow (by have := hnx.size; simp; omega) (fun j h => (World.ownsRow.lt hown j h).1)
      have hown2 : OwnChgs w1 w.heap.size v' (notesTo log cs (k + 1)) := by
        rw [HS.out]
        unfold OwnChgs
        rw [chgVals_append, List.length_append, hsl]
        exact hown'
      clear hgrow hown hown'
      go_wp2
      go_roundw
      case rel => exact ⟨k + 1, by omega, by go_num, hown2, hnx1⟩
      case measure => simp [intOf]; omega
    · obtain rfl : k = n := by omega
      go_wp2
      go_ret
      exact ⟨_, rfl, by rw [HP.out]; exact hown, hnx⟩

theorem status_any (log num : Int) (w : World) (hlog : 0 ≤ log ∧ log < 3000) :
    Calls Try.prog 33 #[.int .i64 log, .int .u64 num] w fun e w' => e = .returned (.agg #[.int .i64 log, .int .u64 num]) ∧ Below w.heap.size w w' := by
  obtain ⟨hl0, hl1⟩ := hlog
  go_enter Try.func33, Try.ntmps33
  go_wp2
  (try simp only [Exit.inBlock, Exit.then])
  refine bodyPost_ret (v := .agg #[_, _]) (by simp [results, Try.results33, go_sem]) rfl ⟨rfl, ?_⟩
  exact (Below.refl _ _).alloc (Nat.le_refl _) _

theorem sureP_len (cs : List Chg) : 1 ≤ (sureP cs).length ∧ (sureP cs).length ≤ cs.length + 354 := by
  have := linesOf_len (cs.map (·.1))
  unfold sureP
  simp only [List.length_append, List.length_map, List.length_cons, List.length_nil]
  omega

set_option maxHeartbeats 2000000 in
set_option maxRecDepth 100000 in
theorem making_any (log : Int) (a : Option Addr) (cap : Nat) (cs : List Chg) (w : World) (h : ChgsAt w a cs) (hin : ∀ i, i < cs.length → 0 ≤ (cs.getD i (0, 0)).1 ∧ (cs.getD i (0, 0)).1 < 2824) (hlen : cs.length ≤ 1000) (hlog : 0 ≤ log ∧ log < 2824) :
    Calls Try.prog 34 #[.int .i64 log, .slice a cs.length cap] w fun e w' => ∃ v, e = .returned v ∧ OwnStps w' w.heap.size v (makingP log cs) ∧ Below w.heap.size w w' := by
  have HS1 : Hid (Calls Try.prog 31 #[.slice a cs.length cap] w fun e w' => ∃ v, e = .returned v ∧ OwnStps w' w.heap.size v (sureP cs) ∧ Below w.heap.size w w') := sure_any a cap cs w h hin (by omega)
  have hs2 : ∀ (v1 : Value) (a1 : Option Addr) (w1 : World), v1 = .slice a1 1 1 → ChgsAt w1 a1 [(log, 0)] → Calls Try.prog 31 #[v1] w1 fun e w' => ∃ v, e = .returned v ∧ OwnStps w' w1.heap.size v (sureP [(log, 0)]) ∧ Below w1.heap.size w1 w' := by
    intro v1 a1 w1 e1 h1
    rw [e1]
    exact sure_any a1 1 [(log, 0)] w1 h1 (fun i hi => by
      obtain rfl : i = 0 := by simp only [List.length_cons, List.length_nil] at hi; omega
      exact hlog) (by simp)
  have HS2 : Hid (∀ (v1 : Value) (a1 : Option Addr) (w1 : World), v1 = .slice a1 1 1 → ChgsAt w1 a1 [(log, 0)] → Calls Try.prog 31 #[v1] w1 fun e w' => ∃ v, e = .returned v ∧ OwnStps w' w1.heap.size v (sureP [(log, 0)]) ∧ Below w1.heap.size w1 w') := hs2
  have HM : Hid (makingP log cs = sureP cs ++ sureP [(log, 0)]) := rfl
  have l1 := sureP_len cs
  have l2 := sureP_len [(log, 0)]
  have hlog' : 0 ≤ log ∧ log < 3000 := by omega
  simp only [List.length_cons, List.length_nil] at l2
  have HC : Hid (∀ (w1 : World) (B b1 o1 b2 o2 c1 c2 : Nat), B < w1.heap.size → w1.cell? ⟨B, 0, none⟩ = some (.slice (some ⟨b1, o1, none⟩) (sureP cs).length c1) → w1.cell? ⟨B, 1, none⟩ = some (.slice (some ⟨b2, o2, none⟩) (sureP [(log, 0)]).length c2) → StpsAt w1 (some ⟨b1, o1, none⟩) (sureP cs) → StpsAt w1 (some ⟨b2, o2, none⟩) (sureP [(log, 0)]) →
      Calls Try.prog 30 #[.slice (some ⟨B, 0, none⟩) 2 2] w1 fun e w' => ∃ v, e = .returned v ∧ OwnStps w' w1.heap.size v (sureP cs ++ sureP [(log, 0)]) ∧ Below w1.heap.size w1 w') :=
    fun w1 B b1 o1 b2 o2 c1 c2 hB hc1 hc2 h1 h2 => concat_any B b1 o1 b2 o2 _ _ c1 c2 _ _ w1 hB hc1 hc2 h1 h2 rfl rfl (by omega) (by omega) (by omega) (by omega)
  obtain ⟨S1, hS1⟩ : ∃ S, sureP cs = S := ⟨_, rfl⟩
  obtain ⟨S2, hS2⟩ : ∃ S, sureP [(log, 0)] = S := ⟨_, rfl⟩
  rw [hS1] at HS1 HM HC l1
  rw [hS2] at HS2 HM HC l2
  have n1 : S1 ≠ [] := fun e => by rw [e] at l1; simp at l1
  have n2 : S2 ≠ [] := fun e => by rw [e] at l2; simp at l2
  clear hS1 hS2 h hin hs2 l1 l2
  go_enter Try.func34, Try.ntmps34
  go_wp2_with fail
  refine Calls.mono (Hid.out HS1) ?_
  rintro e w1 ⟨v1, rfl, own1, b1⟩
  obtain ⟨a1, c1, rfl, -, at1, lo1⟩ := own1.at
  obtain ⟨g1, o1, rfl, -, -⟩ := id (at1.resolve_left n1)
  go_wp2_with fail
  refine (status_any log 0 _ hlog').mono ?_
  rintro e w2 ⟨rfl, b2⟩
  have at1' := at1.later (Nat.le_refl _) b2
  have b12 := b1.trans (b2.mono b1.size)
  clear at1 lo1 own1 b1 b2
  go_wp2_with fail
  refine Calls.mono (Hid.out HS2 _ _ _ rfl ?_) ?_
  · exact one_at w2 log 0
  rintro e w3 ⟨v3, rfl, own3, b3⟩
  obtain ⟨a3, c3, rfl, -, at3, lo3⟩ := own3.at
  obtain ⟨g3, o3, rfl, -, -⟩ := id (at3.resolve_left n2)
  have ba : Below w2.heap.size w2 w3 := ((Below.refl _ _).alloc (Nat.le_refl _) _).trans (b3.mono (by simp))
  have at1 := at1'.later (Nat.le_refl _) ba
  have b123 := b12.trans (ba.mono b12.size)
  clear at1' lo3 own3 b3 ba b12
  go_wp2_with fail
  have bl : Below w3.heap.size w3 (w3.alloc (.cells #[.slice (some ⟨g1, o1, none⟩) S1.length c1, .slice (some ⟨g3, o3, none⟩) S2.length c3] 25)) := (Below.refl _ _).alloc (Nat.le_refl _) _
  refine Calls.mono (Hid.out HC _ w3.heap.size g1 o1 g3 o3 c1 c3 (by simp) (by simp) (by simp) (at1.later (Nat.le_refl _) bl) (at3.later (Nat.le_refl _) bl)) ?_
  rintro e w4 ⟨v4, rfl, own4, b4⟩
  go_wp2
  go_ret
  have hsz := b123.size
  refine ⟨_, rfl, ?_, (b123.trans (bl.mono hsz)).trans (b4.mono (by simp; omega))⟩
  rw [HM.out]
  exact ownsRow_base_a own4 (by simp; omega)

end Go.Proofs.Ytfalchacdebdpaa
