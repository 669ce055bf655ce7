/- Sets of places as the program's map of int to bool; changes that lie somewhere; Right's contract. -/
import Derived.Test.YtfalchacdebdpaaPlanA
import Derived.Test.YtfalchacdebdpaaPlain
namespace Go.Proofs.Ytfalchacdebdpaa
open Go.RowKit Go.Maps Go.ChangeMaps

theorem zero4 (w : World) : (zeroValue 4).run Try.prog w = .ok (.bool false) w := by kernel_rfl
/-- The datum D holds true at just the places of s. -/
def BReads (D : DataW Unit) (s : Int → Bool) : Prop := ∀ k : Int, D.atKey (.int .i64 k) (.lit (.bool false)) = .lit (.bool (s k))
/-- Block b is a map of at most n entries that holds true at just the places of s. -/
def BMapIs (w : World) (b n : Nat) (s : Int → Bool) : Prop :=
  ∃ D : DataW Unit, w.ownsMap Try.prog 3 (plainElem Try.prog 4) b n D ∧ BReads D s
theorem plainElem_bool_inv {P : Program} {e : TypeId} (he : P.underlying e = some .bool) {v : Value} {z : DataW Unit × List MemPlace} (h : plainElem P e v = some z) : ∃ x, v = .bool x ∧ z = (.lit (.bool x), []) := by
  unfold plainElem at h
  rw [he] at h
  cases v <;> simp at h
  exact ⟨_, rfl, h.symm⟩
theorem BMapIs.run {w : World} {b n : Nat} {s : Int → Bool} (h : BMapIs w b n s) {k : Int} (hwk : (Lit.int .i64 k).wf = true) : (Instr.lookup 75 (.map (some b)) (.int .i64 k) false).run Try.prog w = .ok (.bool (s k)) w := by
  obtain ⟨D, hown, hr⟩ := h
  obtain ⟨v, ps, hrun, hv⟩ := hown.lookup law3 Try.underlying75 (zero4 _) (plainElem_bool Try.underlying4 false) (keyOf_int_mk Try.underlying3 hwk)
  obtain ⟨x, rfl, hx⟩ := plainElem_bool_inv Try.underlying4 hv
  rw [hr k] at hx
  cases hx
  exact hrun
theorem bmade (w : World) : BMapIs (w.alloc (.map #[] 0)) w.heap.size 0 (fun _ => false) := ⟨_, World.ownsMap_made w _ _ _, fun _ => rfl⟩
theorem BMapIs.of_block {w w' : World} {b n : Nat} {s : Int → Bool} (h : BMapIs w b n s) (hb : w'.heap[b]? = w.heap[b]?) : BMapIs w' b n s := by
  obtain ⟨D, ⟨es, c, h1, r⟩, h2⟩ := h
  exact ⟨D, ⟨es, c, hb.trans h1, r⟩, h2⟩
theorem BMapIs.lt {w : World} {b n : Nat} {s : Int → Bool} (h : BMapIs w b n s) : b < w.heap.size := let ⟨_, h1, _⟩ := h; h1.lt
theorem BMapIs.congr {w : World} {b n : Nat} {s t : Int → Bool} (h : BMapIs w b n s) (e : ∀ k, t k = s k) : BMapIs w b n t := by
  obtain ⟨D, h1, h2⟩ := h
  exact ⟨D, h1, fun k => by rw [e k]; exact h2 k⟩
section
variable (w : World) {ops : Array Oper} {rest : List Oper} {o : Oper} {a : Act} {Q : Exit → Act → World → Prop}
theorem wpList_bput (hg : o.guard = none) (m x v : Operand) (hop : o.op = Op.mapUpdate 75 m x v) (b n : Nat) (s : Int → Bool) (k : Int)
    (hm : a.eval m = .map (some b)) (h : BMapIs w b n s) (hn : n < maxLen) (hx : a.eval x = .int .i64 k) (hv : a.eval v = .bool true) (hwk : (Lit.int .i64 k).wf = true)
    (hK : ∀ w', BMapIs w' b (n + 1) (fun j => decide (j = k) || s j) → w.mapTurned w' b → wpList Try.prog ops Q rest (a.put o.dst undef) w') :
    wpList Try.prog ops Q (o :: rest) a w := by
  obtain ⟨D, hown, hr⟩ := h
  refine wpList_mapUpdate_in w hg m x v 75 hop 3 4 law3 Try.underlying75 _ b n D hm hown hn _ _ _ hx hv (keyOf_int_mk Try.underlying3 hwk) _ [] (plainElem_bool Try.underlying4 true) ?_
  intro w1 hown1 hturn
  refine hK w1 ⟨_, hown1, fun j => ?_⟩ hturn
  by_cases e : j = k
  · subst e
    rw [atKey_put_same hown.isMap (k := .int .i64 j) trivial]; simp
  · rw [atKey_put_other (key_ne e), hr j]; simp [e]
end

/-- Changes lie at a slice's address. -/
def ChgsAt (w : World) (a : Option Addr) (cs : List Chg) : Prop := cs = [] ∨ ∃ b o, a = some ⟨b, o, none⟩ ∧ b < w.heap.size ∧ ∀ i, i < cs.length → w.cell? ⟨b, o + i * 2, none⟩ = some (.int .i64 (cs.getD i (0, 0)).1) ∧ w.cell? ⟨b, o + i * 2 + 1, none⟩ = some (.int .u64 (cs.getD i (0, 0)).2)
/-- They are numbers of their kinds. -/
def ChgOk (cs : List Chg) : Prop := ∀ i, i < cs.length → (Lit.int .i64 (cs.getD i (0, 0)).1).wf = true ∧ (Lit.int .u64 (cs.getD i (0, 0)).2).wf = true

theorem ChgsAt.later {w w' : World} {a : Option Addr} {cs : List Chg} (h : ChgsAt w a cs) {B : Nat} (hB : w.heap.size ≤ B) (hb : Below B w w') : ChgsAt w' a cs := by
  rcases h with h | ⟨b, o, e, hlt, hc⟩
  · exact .inl h
  · exact .inr ⟨b, o, e, by have := hb.size; omega, fun i hi => ⟨(hb.cell (p := ⟨b, o + i * 2, none⟩) (by show b < B; omega)).trans (hc i hi).1, (hb.cell (p := ⟨b, o + i * 2 + 1, none⟩) (by show b < B; omega)).trans (hc i hi).2⟩⟩
theorem ChgsAt.only {w w' : World} {a : Option Addr} {cs : List Chg} {S : List Nat} (h : ChgsAt w a cs) (ho : Only S w w') (hS : ∀ b, a.map (·.block) = some b → b ∉ S) : ChgsAt w' a cs := by
  rcases h with h | ⟨b, o, rfl, hlt, hc⟩
  · exact .inl h
  · have hb := ho.block b hlt (hS b rfl)
    exact .inr ⟨b, o, rfl, by have := ho.size; omega, fun i hi => ⟨by rw [World.cell?_of_block (w := w) hb]; exact (hc i hi).1, by rw [World.cell?_of_block (w := w) hb]; exact (hc i hi).2⟩⟩

/-- The places that the first k changes name. -/
def namedTo (cs : List Chg) (k : Nat) : Int → Bool := fun j => decide (∃ i, i < k ∧ (cs.getD i (0, 0)).1 = j)
theorem namedTo_succ (cs : List Chg) (k : Nat) (j : Int) : namedTo cs (k + 1) j = (decide (j = (cs.getD k (0, 0)).1) || namedTo cs k j) := by
  unfold namedTo
  rw [Bool.eq_iff_iff]
  simp only [Bool.or_eq_true, decide_eq_true_eq]
  constructor
  · rintro ⟨i, hi, e⟩
    by_cases h : i = k
    · subst h; exact .inl e.symm
    · exact .inr ⟨i, by omega, e⟩
  · rintro (e | ⟨i, hi, e⟩)
    · exact ⟨k, by omega, e.symm⟩
    · exact ⟨i, by omega, e⟩

theorem openB_iff (a : Int) : openB a = true ↔ openI a := by
  unfold openB openI
  rcases places a with h | h | ⟨h, h'⟩ | ⟨h, h'⟩ | ⟨h, h'⟩ | ⟨h, h'⟩ | ⟨h, h'⟩
  · rw [(ki_neg h).1]; simp; omega
  · rw [(ki_far h).1]; simp; omega
  · rw [(ki_head h h').1]; simp; omega
  · rw [(ki_card h h').1]; simp; omega
  · rw [(ki_owner h h').1]; simp; omega
  · rw [(ki_log h h').1]; simp; omega
  · rw [(ki_data h h').1]; simp; omega

set_option maxHeartbeats 1000000 in
theorem right_long (a : Option Addr) (n cap : Nat) (w : World) (h : 120 < n) :
    Calls Try.prog 11 #[.slice a n cap] w fun e w' => e = .returned (.int .i64 13) ∧ w' = w := by
  have h' : (120 : Int) < n := by omega
  go_enter Try.func11, Try.ntmps11
  go_wp2
  go_ret
  exact ⟨rfl, rfl⟩

set_option maxHeartbeats 1000000 in
theorem right_short (a : Option Addr) (cap : Nat) (cs : List Chg) (w : World) (h : ChgsAt w a cs) (hok : ChgOk cs) (hn : cs.length ≤ 120) :
    Calls Try.prog 11 #[.slice a cs.length cap] w fun e w' => e = .returned (.int .i64 (okI cs)) ∧ Below w.heap.size w w' := by
  have hop := open_any
  have H : Hid (ChgsAt w a cs) := h
  have HO : Hid (ChgOk cs) := hok
  obtain ⟨n, hn'⟩ : ∃ n, cs.length = n := ⟨_, rfl⟩
  have HN : Hid (cs.length = n) := hn'
  rw [hn'] at hn ⊢
  clear h hok hn'
  obtain ⟨res, hres⟩ : ∃ r : Int, (okI cs) = r := ⟨_, rfl⟩
  have HR : Hid ((okI cs) = res) := hres
  rw [hres]
  clear hres
  have hmm := @run_makeMap Try.prog
  go_enter Try.func11, Try.ntmps11
  go_wp2
  go_loopw [12] (fun i wr => ∃ k : Nat, k ≤ n ∧ i = .int .i64 k ∧ BMapIs wr w.heap.size k (namedTo cs k) ∧ Hid (okTo cs k) ∧ Below w.heap.size w wr) (fun i _ => n - (intOf i).toNat)
  case atStart => exact ⟨0, Nat.zero_le _, rfl, (bmade w).congr (fun k => by simp [namedTo]), fun i hi => absurd hi (Nat.not_lt_zero i), (Below.refl _ _).alloc (Nat.le_refl _) _⟩
  case round =>
    obtain ⟨k, hk, rfl, hm, hok, hnx⟩ := hrel
    by_cases hlt : k < n
    · obtain ⟨b, o, rfl, hb, hc⟩ := H.out.resolve_left (fun e => by have := HN.out; rw [e] at this; simp at this; omega)
      have hkn : (k : Int) < (n : Int) := by omega
      have x1 := (hnx.cell (p := ⟨b, o + k * 2, none⟩) hb).trans (hc k (by rw [HN.out]; exact hlt)).1
      have x2 := (hnx.cell (p := ⟨b, o + k * 2 + 1, none⟩) hb).trans (hc k (by rw [HN.out]; exact hlt)).2
      have hwf := (HO.out k (by rw [HN.out]; exact hlt)).1
      have HK1 : Hid (okTo cs (k + 1) ↔ okTo cs k ∧ openI (cs.getD k (0, 0)).1 ∧ ∀ j, j < k → (cs.getD j (0, 0)).1 ≠ (cs.getD k (0, 0)).1) := okTo_succ cs k
      have HNM : Hid (∀ j, namedTo cs (k + 1) j = (decide (j = (cs.getD k (0, 0)).1) || namedTo cs k j)) := namedTo_succ cs k
      have HND : Hid (namedTo cs k (cs.getD k (0, 0)).1 = decide (∃ i, i < k ∧ (cs.getD i (0, 0)).1 = (cs.getD k (0, 0)).1)) := rfl
      have HLE : Hid (∀ m, okP cs → m ≤ n → okTo cs m) := fun m h hm => okTo_le h (by rw [HN.out]; exact hm)
      clear hc
      obtain ⟨X, hX⟩ : ∃ X, (cs.getD k (0, 0)).1 = X := ⟨_, rfl⟩
      obtain ⟨Y, hY⟩ : ∃ Y, (cs.getD k (0, 0)).2 = Y := ⟨_, rfl⟩
      rw [hX] at x1 hwf HK1 HNM HND
      rw [hY] at x2
      clear hX hY
      cases hopen : openB X with
      | false =>
        have HF : Hid (¬ openI X) := fun e => by rw [← openB_iff, hopen] at e; cases e
        go_wp2_with (first | (go_at_call 38; refine (hop X _).mono ?_; rintro e w' ⟨rfl, rfl⟩; rw [hopen]) | go_in)
        go_ret
        refine ⟨ret_int ?_, hnx.alloc hnx.size _⟩
        rw [← HR.out, okI_neg]
        exact fun e => HF.out (HK1.out.1 (HLE.out (k + 1) e (by omega))).2.1
      | true =>
        have HF : Hid (openI X) := (openB_iff X).1 hopen
        have hm1 : BMapIs (wr.alloc (.cells #[.int .i64 X, .int .u64 Y] 40)) w.heap.size k (namedTo cs k) := hm.of_block (Below.heap_alloc _ _ _ hm.lt)
        have hrun := hm1.run hwf
        cases hnm : namedTo cs k X with
        | true =>
          rw [hnm] at hrun HND
          have hx : ∃ i, i < k ∧ (cs.getD i (0, 0)).1 = X := of_decide_eq_true HND.out.symm
          have HX : Hid (∃ i, i < k ∧ (cs.getD i (0, 0)).1 = X) := hx
          clear hx
          clear hm1 hm hnm HND
          go_wp2_with (first | (go_at_call 38; refine (hop X _).mono ?_; rintro e w' ⟨rfl, rfl⟩; rw [hopen]) | go_in)
          go_ret
          refine ⟨ret_int ?_, hnx.alloc hnx.size _⟩
          rw [← HR.out, okI_neg]
          intro e
          obtain ⟨i, hi, hie⟩ := HX.out
          exact (HK1.out.1 (HLE.out (k + 1) e (by omega))).2.2 i hi hie
        | false =>
          rw [hnm] at hrun HND
          have hx : ¬ ∃ i, i < k ∧ (cs.getD i (0, 0)).1 = X := of_decide_eq_false HND.out.symm
          have HX : Hid (¬ ∃ i, i < k ∧ (cs.getD i (0, 0)).1 = X) := hx
          clear hx
          clear hnm HND
          go_wp2_with (first
            | (go_at_call 38; refine (hop X _).mono ?_; rintro e w' ⟨rfl, rfl⟩; rw [hopen])
            | (at_mapUpdate; refine wpList_bput _ rfl _ _ _ rfl w.heap.size k _ X rfl hm1 (by unfold maxLen; omega) rfl rfl hwf ?_; intro w2 hm2 ht2)
            | go_in)
          go_roundw
          case rel => exact ⟨k + 1, by omega, by go_num, hm2.congr HNM.out, HK1.out.2 ⟨hok.out, HF.out, fun j hj e => HX.out ⟨j, hj, e⟩⟩, (hnx.alloc hnx.size _).grown ht2.grown (by have := hnx.size; simp; omega) (fun j h => by cases h; exact Nat.le_refl _)⟩
          case measure => simp [intOf]; omega
    · obtain rfl : k = n := by omega
      go_wp2
      go_ret
      refine ⟨ret_int ?_, hnx⟩
      rw [← HR.out, okI_pos]
      unfold okP; rw [HN.out]; exact hok.out

theorem right7_any (a : Option Addr) (cap : Nat) (cs : List Chg) (w : World) (h : ChgsAt w a cs) (hok : ChgOk cs) :
    Calls Try.prog 11 #[.slice a cs.length cap] w fun e w' => e = .returned (.int .i64 (rightP cs)) ∧ Below w.heap.size w w' := by
  by_cases hn : 120 < cs.length
  · have e : rightP cs = 13 := by simp [rightP, hn]
    rw [e]
    refine (right_long a cs.length cap w hn).mono ?_
    rintro e w' ⟨rfl, rfl⟩
    exact ⟨rfl, Below.refl _ _⟩
  · have e : rightP cs = okI cs := by simp [rightP, hn]
    rw [e]
    exact right_short a cap cs w h hok (by omega)

end Go.Proofs.Ytfalchacdebdpaa
