/- Contract of sure: the steps behind which words are what they are to be. -/
import Derived.Test.YtfalchacdebdpaaSealB
import Derived.Test.YtfalchacdebdpaaCrash
namespace Go.Proofs.Ytfalchacdebdpaa
open Go.RowKit Go.Maps Go.ChangeMaps Go.Shelf Go.Lib

theorem Try.info34 : (Try.prog.info? 34).map (fun i => (i.zero, i.size, i.bytes)) = some (some (.agg #[.int .i64 0, .int .i64 0, .int .u64 0]), 3, 24) := by kernel_rfl

/-- Steps as cells. -/
def stpVals (ss : List Stp) : List Value := ss.flatMap fun s => [.int .i64 s.kind, .int .i64 s.at_, .int .u64 s.v]
theorem stpVals_append (a b : List Stp) : stpVals (a ++ b) = stpVals a ++ stpVals b := by simp [stpVals]
theorem stpVals_len (a : List Stp) : (stpVals a).length = a.length * 3 := by
  induction a with
  | nil => rfl
  | cons x a ih => simp only [stpVals, List.flatMap_cons, List.length_append, List.length_cons, List.length_nil] at *; omega
theorem stpVals_one (k a v : Int) : stpVals [⟨k, a, v⟩] = [.int .i64 k, .int .i64 a, .int .u64 v] := by simp [stpVals]

/-- Steps lie at a slice's address. -/
def StpsAt (w : World) (a : Option Addr) (ss : List Stp) : Prop := ss = [] ∨ ∃ b o, a = some ⟨b, o, none⟩ ∧ b < w.heap.size ∧ ∀ i, i < ss.length → w.cell? ⟨b, o + i * 3, none⟩ = some (.int .i64 (ss.getD i ⟨0, 0, 0⟩).kind) ∧ w.cell? ⟨b, o + i * 3 + 1, none⟩ = some (.int .i64 (ss.getD i ⟨0, 0, 0⟩).at_) ∧ w.cell? ⟨b, o + i * 3 + 2, none⟩ = some (.int .u64 (ss.getD i ⟨0, 0, 0⟩).v)
/-- A row of steps of one's own. -/
def OwnStps (w : World) (base : Nat) (v : Value) (ss : List Stp) : Prop := w.ownsRow base 34 3 v ss.length (stpVals ss)

theorem stpVals_at (ss : List Stp) (i : Nat) (hi : i < ss.length) : (stpVals ss)[i * 3]? = some (.int .i64 (ss.getD i ⟨0, 0, 0⟩).kind) ∧ (stpVals ss)[i * 3 + 1]? = some (.int .i64 (ss.getD i ⟨0, 0, 0⟩).at_) ∧ (stpVals ss)[i * 3 + 2]? = some (.int .u64 (ss.getD i ⟨0, 0, 0⟩).v) := by
  induction ss generalizing i with
  | nil => simp at hi
  | cons s ss ih =>
    have e : stpVals (s :: ss) = [.int .i64 s.kind, .int .i64 s.at_, .int .u64 s.v] ++ stpVals ss := rfl
    cases i with
    | zero => rw [e]; simp
    | succ i =>
      have := ih i (by simpa using hi)
      rw [e, List.getElem?_append_right (by simp; omega), List.getElem?_append_right (by simp; omega), List.getElem?_append_right (by simp; omega)]
      have e1 : (i + 1) * 3 - 3 = i * 3 := by omega
      have e2 : (i + 1) * 3 + 1 - 3 = i * 3 + 1 := by omega
      have e3 : (i + 1) * 3 + 2 - 3 = i * 3 + 2 := by omega
      simp only [List.length_cons, List.length_nil, Nat.zero_add, Nat.reduceAdd, e1, e2, e3]
      simpa using this

theorem OwnStps.at {w : World} {base : Nat} {v : Value} {ss : List Stp} (h : OwnStps w base v ss) : ∃ a c, v = .slice a ss.length c ∧ ss.length ≤ c ∧ StpsAt w a ss ∧ ∀ b, a.map (·.block) = some b → base ≤ b ∧ b < w.heap.size := by
  have h' := h
  rcases h.2 with ⟨rfl, h0⟩ | ⟨g, cap, cur, rfl, _, _, hle, _⟩
  · exact ⟨none, 0, by rw [h0], by omega, .inl (List.length_eq_zero_iff.1 h0), fun b e => by cases e⟩
  · refine ⟨_, cap, rfl, hle, .inr ⟨g, 0, rfl, (h'.lt g rfl).2, fun i hi => ?_⟩, fun b e => by cases e; exact h'.lt g rfl⟩
    have := stpVals_at ss i hi
    rw [Nat.zero_add, World.ownsRow.cellAt h' (i * 3) (by omega), World.ownsRow.cellAt h' (i * 3 + 1) (by omega), World.ownsRow.cellAt h' (i * 3 + 2) (by omega)]
    exact this

theorem StpsAt.later {w w' : World} {a : Option Addr} {ss : List Stp} (h : StpsAt w a ss) {B : Nat} (hB : w.heap.size ≤ B) (hb : Below B w w') : StpsAt w' a ss := by
  rcases h with h | ⟨b, o, e, hlt, hc⟩
  · exact .inl h
  · exact .inr ⟨b, o, e, by have := hb.size; omega, fun i hi => ⟨(hb.cell (p := ⟨b, o + i * 3, none⟩) (by show b < B; omega)).trans (hc i hi).1, (hb.cell (p := ⟨b, o + i * 3 + 1, none⟩) (by show b < B; omega)).trans (hc i hi).2.1, (hb.cell (p := ⟨b, o + i * 3 + 2, none⟩) (by show b < B; omega)).trans (hc i hi).2.2⟩⟩
theorem StpsAt.only {w w' : World} {a : Option Addr} {ss : List Stp} {S : List Nat} (h : StpsAt w a ss) (ho : Only S w w') (hS : ∀ b, a.map (·.block) = some b → b ∉ S) : StpsAt w' a ss := by
  rcases h with h | ⟨b, o, rfl, hlt, hc⟩
  · exact .inl h
  · have hb := ho.block b hlt (hS b rfl)
    exact .inr ⟨b, o, rfl, by have := ho.size; omega, fun i hi => ⟨by rw [World.cell?_of_block (w := w) hb]; exact (hc i hi).1, by rw [World.cell?_of_block (w := w) hb]; exact (hc i hi).2.1, by rw [World.cell?_of_block (w := w) hb]; exact (hc i hi).2.2⟩⟩

def storesTo (cs : List Chg) (k : Nat) : List Stp := (List.range k).map fun i => ⟨1, (cs.getD i (0, 0)).1, (cs.getD i (0, 0)).2⟩
def flushesTo (ls : List Int) (k : Nat) : List Stp := (List.range k).map fun i => ⟨2, ls.getD i 0, 0⟩
theorem storesTo_succ (cs : List Chg) (k : Nat) : storesTo cs (k + 1) = storesTo cs k ++ [⟨1, (cs.getD k (0, 0)).1, (cs.getD k (0, 0)).2⟩] := by simp [storesTo, List.range_succ]
theorem flushesTo_succ (ls : List Int) (k : Nat) : flushesTo ls (k + 1) = flushesTo ls k ++ [⟨2, ls.getD k 0, 0⟩] := by simp [flushesTo, List.range_succ]
theorem storesTo_len (cs : List Chg) (k : Nat) : (storesTo cs k).length = k := by simp [storesTo]
theorem flushesTo_len (ls : List Int) (k : Nat) : (flushesTo ls k).length = k := by simp [flushesTo]
theorem storesTo_all (cs : List Chg) : storesTo cs cs.length = cs.map (fun c => ⟨1, c.1, c.2⟩) := by
  apply List.ext_getElem (by simp [storesTo])
  intro i h1 h2
  simp [storesTo] at h1
  simp [storesTo, h1]
theorem flushesTo_all (ls : List Int) : flushesTo ls ls.length = ls.map (fun a => ⟨2, a, 0⟩) := by
  apply List.ext_getElem (by simp [flushesTo])
  intro i h1 h2
  simp [flushesTo] at h1
  simp [flushesTo, h1]
theorem linesOf_len (l : List Int) : (linesOf l).length ≤ 353 := by
  unfold linesOf
  rw [List.length_map]
  exact Nat.le_trans (List.length_filter_le _ _) (by simp)

/-- A row of one's own, one step longer. -/
theorem OwnStps.more {w : World} {base : Nat} {v : Value} {ss : List Stp} {k a x : Int} (h : w.ownsRow base 34 3 v (ss.length + 1) (stpVals ss ++ [.int .i64 k, .int .i64 a, .int .u64 x])) : OwnStps w base v (ss ++ [⟨k, a, x⟩]) := by
  unfold OwnStps
  rw [stpVals_append, stpVals_one, List.length_append]
  exact h

/-- Rows of two kinds of elements lie apart. -/
theorem own_ne {w : World} {b1 b2 : Nat} {e1 e2 : TypeId} {s1 s2 : Nat} {v1 v2 : Value} {n1 n2 : Nat} {x1 x2 : List Value} (h1 : w.ownsRow b1 e1 s1 v1 n1 x1) (h2 : w.ownsRow b2 e2 s2 v2 n2 x2) (he : e1 ≠ e2) : v1.ownBlock = none ∨ v1.ownBlock ≠ v2.ownBlock := by
  rcases h1.2 with ⟨rfl, _⟩ | ⟨g1, c1, u1, rfl, _, hb1, _⟩
  · exact .inl rfl
  · right
    rcases h2.2 with ⟨rfl, _⟩ | ⟨g2, c2, u2, rfl, _, hb2, _⟩
    · intro x; cases x
    · intro x
      have : g1 = g2 := Option.some.inj x
      subst this
      rw [hb1] at hb2
      cases hb2
      exact he rfl

theorem three_cells {w : World} {B : Nat} {x y z : Value} {t : TypeId} (hB : w.heap.size = B) : ∀ (j : Nat) (u : Value), [x, y, z][j]? = some u → (w.alloc (.cells #[x, y, z] t)).cell? ((⟨B, 0, none⟩ : Addr).add j) = some u := by
  subst hB
  intro j u hj
  match j, hj with
  | 0, hj => simp at hj; subst hj; simp [Addr.add]
  | 1, hj => simp at hj; subst hj; simp [Addr.add]
  | 2, hj => simp at hj; subst hj; simp [Addr.add]

set_option maxHeartbeats 2000000 in
theorem sure_any (a : Option Addr) (cap : Nat) (cs : List Chg) (w : World) (h : ChgsAt w a cs) (hin : ∀ i, i < cs.length → 0 ≤ (cs.getD i (0, 0)).1 ∧ (cs.getD i (0, 0)).1 < 2824) (hlen : cs.length ≤ 1000000) :
    Calls Try.prog 31 #[.slice a cs.length cap] w fun e w' => ∃ v, e = .returned v ∧ OwnStps w' w.heap.size v (sureP cs) ∧ Below w.heap.size w w' := by
  obtain ⟨i0, hi, hz0, hz1, hz2⟩ := info_parts Try.info34
  have H : Hid (ChgsAt w a cs) := h
  have HLN : Hid (∀ w : World, ChgsAt w a cs → Calls Try.prog 54 #[.slice a cs.length cap] w fun e w' => ∃ v, e = .returned v ∧ w'.ownsRow w.heap.size 3 1 v (linesOf (cs.map (·.1))).length ((linesOf (cs.map (·.1))).map (Value.int .i64)) ∧ Below w.heap.size w w') := fun w hw => lines_any a cap cs w hw hin hlen
  have HP : Hid (sureP cs = storesTo cs cs.length ++ flushesTo (linesOf (cs.map (·.1))) (linesOf (cs.map (·.1))).length ++ [⟨3, 0, 0⟩]) := by
    rw [storesTo_all, flushesTo_all]; rfl
  have hll := linesOf_len (cs.map (·.1))
  generalize linesOf (cs.map (·.1)) = ls at HLN HP hll
  obtain ⟨n, hn'⟩ : ∃ n, cs.length = n := ⟨_, rfl⟩
  have HN : Hid (cs.length = n) := hn'
  obtain ⟨m, hm'⟩ : ∃ m, ls.length = m := ⟨_, rfl⟩
  have HM : Hid (ls.length = m) := hm'
  rw [hn'] at hlen HLN HP ⊢
  rw [hm'] at hll HLN HP
  clear h hn' hin hm'
  go_enter Try.func31, Try.ntmps31
  go_wp2
  go_loopw [3, 10] (fun v i wr => ∃ k : Nat, k ≤ n ∧ i = .int .i64 k ∧ OwnStps wr w.heap.size v (storesTo cs k) ∧ Below w.heap.size w wr) (fun _ i _ => n - (intOf i).toNat)
  case atStart => exact ⟨0, Nat.zero_le _, rfl, World.ownsRow_nil _ _ _ _, Below.refl _ _⟩
  case round =>
    obtain ⟨k, hk, rfl, hown, hnx⟩ := hrel
    by_cases hlt : k < n
    · obtain ⟨b, o, rfl, hb, hc⟩ := H.out.resolve_left (fun e => by have := HN.out; rw [e] at this; simp at this; omega)
      have hkn : (k : Int) < (n : Int) := by omega
      have x1 := (hnx.cell (p := ⟨b, o + k * 2, none⟩) hb).trans (hc k (by rw [HN.out]; exact hlt)).1
      have x2 := (hnx.cell (p := ⟨b, o + k * 2 + 1, none⟩) hb).trans (hc k (by rw [HN.out]; exact hlt)).2
      have HS : Hid (storesTo cs (k + 1) = storesTo cs k ++ [⟨1, (cs.getD k (0, 0)).1, (cs.getD k (0, 0)).2⟩]) := storesTo_succ cs k
      clear hc
      obtain ⟨X, hX⟩ : ∃ X, (cs.getD k (0, 0)).1 = X := ⟨_, rfl⟩
      obtain ⟨Y, hY⟩ : ∃ Y, (cs.getD k (0, 0)).2 = Y := ⟨_, rfl⟩
      rw [hX] at x1 HS
      rw [hY] at x2 HS
      have hsl := storesTo_len cs k
      clear hX hY
      go_wp2_with (first
        | (at_builtin; refine wpList_append_own _ rfl _ _ 25 rfl w.heap.size 34 i0 (.agg #[.int .i64 0, .int .i64 0, .int .u64 0]) 3 24 Try.underlying25 hi hz0 hz1 hz2 rfl (by decide) _ _ _ rfl (World.ownsRow.alloc (World.ownsRow.alloc hown _) _) ⟨_, 0, none⟩ 1 1 [.int .i64 1, .int .i64 X, .int .u64 Y] rfl rfl ?c1 ?c2 ?c3 ?c4 ?c5 ?_)
        | go_in)
      case c1 => exact three_cells (by simp)
      case c2 => intro u hu; simp at hu; rcases hu with rfl | rfl | rfl <;> rfl
      case c3 => unfold maxLen; omega
      case c4 => omega
      case c5 => have := hnx.size; simp; omega
      intro v' w1 hown' hgrow _
      have hnx1 : Below w.heap.size w w1 := ((hnx.alloc hnx.size _).alloc (by have := hnx.size; simp; omega) _).grown hgrow (by have := hnx.size; simp; omega) (fun j h => (World.ownsRow.lt hown j h).1)
      have hown2 : OwnStps w1 w.heap.size v' (storesTo cs (k + 1)) := by rw [HS.out]; refine OwnStps.more ?_; rw [hsl]; exact hown'
      clear hgrow hown hown'
      go_wp2
      go_roundw
      case rel => exact ⟨k + 1, by omega, by go_num, hown2, hnx1⟩
      case measure => simp [intOf]; omega
    · obtain rfl : k = n := by omega
      obtain ⟨wo, hwo⟩ : ∃ x, x = wr := ⟨_, rfl⟩
      subst hwo
      go_wp2_with fail
      refine (HLN.out _ (H.out.later (Nat.le_refl _) hnx)).mono ?_
      rintro e w1 ⟨vl, rfl, hl, b1⟩
      obtain ⟨va, vc, rfl, hva⟩ := ownsRow_form0 hl
      have hown1 : OwnStps w1 w.heap.size _ (storesTo cs k) := own_block hown (fun g hg => b1.block g (World.ownsRow.lt hown g hg).2)
      have hnx1 := hnx.trans (b1.mono hnx.size)
      have hsz1 := b1.size
      clear hown hnx b1
      go_wp2
      go_loopw [3, 26] (fun v i wr => ∃ j : Nat, j ≤ m ∧ i = .int .i64 j ∧ OwnStps wr w.heap.size v (storesTo cs k ++ flushesTo ls j) ∧ wr.ownsRow wo.heap.size 3 1 (.slice va m vc) m (ls.map (Value.int .i64)) ∧ Below w.heap.size w wr) (fun _ i _ => m - (intOf i).toNat)
      case atStart => exact ⟨0, Nat.zero_le _, rfl, by simpa [flushesTo] using hown1, hl, hnx1⟩
      case round =>
        obtain ⟨j, hj, rfl, hown, hln, hnx⟩ := hrel
        have hlen3 : (storesTo cs k ++ flushesTo ls j).length = k + j := by rw [List.length_append, storesTo_len, flushesTo_len]
        by_cases hlt2 : j < m
        · rcases hva with h0 | ⟨g, rfl, hg⟩
          · omega
          have hjm : (j : Int) < (m : Int) := by omega
          have hcell : wr.cell? ⟨g, j, none⟩ = some (.int .i64 (ls.getD j 0)) := by
            have hj' : j < ls.length := by rw [HM.out]; exact hlt2
            rw [hln.cellAt j (by omega)]; simp [hj']
          have hs : storesTo cs k ++ flushesTo ls (j + 1) = storesTo cs k ++ flushesTo ls j ++ [⟨2, ls.getD j 0, 0⟩] := by rw [flushesTo_succ, List.append_assoc]
          have HS : Hid (storesTo cs k ++ flushesTo ls (j + 1) = storesTo cs k ++ flushesTo ls j ++ [⟨2, ls.getD j 0, 0⟩]) := hs
          clear hs
          obtain ⟨X, hX⟩ : ∃ X, ls.getD j 0 = X := ⟨_, rfl⟩
          rw [hX] at hcell HS
          have hne := own_ne hln hown (by decide)
          clear hX
          go_wp2_with (first
            | (at_builtin; refine wpList_append_own _ rfl _ _ 25 rfl w.heap.size 34 i0 (.agg #[.int .i64 0, .int .i64 0, .int .u64 0]) 3 24 Try.underlying25 hi hz0 hz1 hz2 rfl (by decide) _ _ _ rfl (World.ownsRow.alloc hown _) ⟨_, 0, none⟩ 1 1 [.int .i64 2, .int .i64 X, .int .u64 0] rfl rfl ?c1 ?c2 ?c3 ?c4 ?c5 ?_)
            | go_in)
          case c1 => exact three_cells (by simp)
          case c2 => intro u hu; simp at hu; rcases hu with rfl | rfl | rfl <;> rfl
          case c3 => unfold maxLen; omega
          case c4 => omega
          case c5 => have := hnx.size; simp; omega
          intro v' w2 hown' hgrow _
          have hnx2 : Below w.heap.size w w2 := (hnx.alloc hnx.size _).grown hgrow (by have := hnx.size; simp; omega) (fun j h => (World.ownsRow.lt hown j h).1)
          have hown2 : OwnStps w2 w.heap.size v' (storesTo cs k ++ flushesTo ls (j + 1)) := by rw [HS.out]; refine OwnStps.more ?_; rw [hlen3]; exact hown'
          have hln2 := (hln.alloc _).kept hgrow hne
          clear hgrow hown hown' hln
          go_wp2
          go_roundw
          case rel => exact ⟨j + 1, by omega, by go_num, hown2, hln2, hnx2⟩
          case measure => simp [intOf]; omega
        · obtain rfl : j = m := by omega
          go_wp2_with (first
            | (at_builtin; refine wpList_append_own _ rfl _ _ 25 rfl w.heap.size 34 i0 (.agg #[.int .i64 0, .int .i64 0, .int .u64 0]) 3 24 Try.underlying25 hi hz0 hz1 hz2 rfl (by decide) _ _ _ rfl (World.ownsRow.alloc hown _) ⟨_, 0, none⟩ 1 1 [.int .i64 3, .int .i64 0, .int .u64 0] rfl rfl ?c1 ?c2 ?c3 ?c4 ?c5 ?_)
            | go_in)
          case c1 => exact three_cells (by simp)
          case c2 => intro u hu; simp at hu; rcases hu with rfl | rfl | rfl <;> rfl
          case c3 => unfold maxLen; omega
          case c4 => omega
          case c5 => have := hnx.size; simp; omega
          intro v' w2 hown' hgrow _
          have hnx2 : Below w.heap.size w w2 := (hnx.alloc hnx.size _).grown hgrow (by have := hnx.size; simp; omega) (fun j h => (World.ownsRow.lt hown j h).1)
          have hown2 : OwnStps w2 w.heap.size v' (sureP cs) := by rw [HP.out]; refine OwnStps.more ?_; rw [hlen3]; exact hown'
          clear hgrow hown hown' hln
          go_wp2
          go_ret
          exact ⟨v', rfl, hown2, hnx2⟩

end Go.Proofs.Ytfalchacdebdpaa
