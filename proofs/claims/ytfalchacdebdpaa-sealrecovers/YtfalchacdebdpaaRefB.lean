/- Contracts of the document's lines and status. -/
import Derived.Test.YtfalchacdebdpaaRefA
import Derived.Test.YtfalchacdebdpaaSealK
namespace Go.Proofs.Ytfalchacdebdpaa
open Go.RowKit Go.Maps Go.ChangeMaps Go.Shelf

theorem Try.info35 : (Try.prog.info? 35).map (fun i => (i.zero, i.size, i.bytes)) = some (some (.agg #[.int .i64 0, .int .i64 0, .int .u64 0]), 3, 24) := by kernel_rfl

/-- A row of the document's steps of one's own. -/
def OwnRef (w : World) (base : Nat) (v : Value) (ss : List Stp) : Prop := w.ownsRow base 35 3 v ss.length (stpVals ss)
theorem OwnRef.more {w : World} {base : Nat} {v : Value} {ss : List Stp} {k a x : Int} (h : w.ownsRow base 35 3 v (ss.length + 1) (stpVals ss ++ [.int .i64 k, .int .i64 a, .int .u64 x])) : OwnRef w base v (ss ++ [⟨k, a, x⟩]) := by
  unfold OwnRef
  rw [stpVals_append, stpVals_one, List.length_append]
  exact h
theorem OwnRef.later {w w' : World} {base : Nat} {v : Value} {ss : List Stp} (h : OwnRef w base v ss) {B : Nat} (hB : w.heap.size ≤ B) (hb : Below B w w') : OwnRef w' base v ss :=
  own_block h fun g hg => hb.block g (by have := (World.ownsRow.lt h g hg).2; omega)

/-- Numbers at a slice's address. -/
def IntsAt (w : World) (a : Option Addr) (l : List Int) : Prop := l = [] ∨ ∃ b o, a = some ⟨b, o, none⟩ ∧ b < w.heap.size ∧ ∀ i, i < l.length → w.cell? ⟨b, o + i, none⟩ = some (.int .i64 (l.getD i 0))
theorem IntsAt.later {w w' : World} {a : Option Addr} {l : List Int} (h : IntsAt w a l) {B : Nat} (hB : w.heap.size ≤ B) (hb : Below B w w') : IntsAt w' a l := by
  rcases h with h | ⟨b, o, e, hlt, hc⟩
  · exact .inl h
  · exact .inr ⟨b, o, e, by have := hb.size; omega, fun i hi => (hb.cell (p := ⟨b, o + i, none⟩) (by show b < B; omega)).trans (hc i hi)⟩
theorem ints_own {w : World} {base : Nat} {v : Value} {l : List Int} {n : Nat} (h : w.ownsRow base 3 1 v n (l.map (Value.int .i64))) : l.length = n ∧ ∃ a c, v = .slice a n c ∧ IntsAt w a l := by
  have hl : l.length = n := by have := h.1; simpa using this
  refine ⟨hl, ?_⟩
  rcases id h.2 with ⟨rfl, h0⟩ | ⟨g, cap, cur, rfl, _⟩
  · exact ⟨none, 0, by rw [h0], .inl (List.length_eq_zero_iff.1 (by omega))⟩
  · refine ⟨_, cap, rfl, .inr ⟨g, 0, rfl, (World.ownsRow.lt h g rfl).2, fun i hi => ?_⟩⟩
    rw [Nat.zero_add, World.ownsRow.cellAt h i (by omega)]
    simp [hi]

def hits (l : List Int) (q : Nat) : Bool := l.any fun a => decide (a / 8 = (q : Int))
def linesQ (l : List Int) (k : Nat) : List Stp := ((List.range k).filter (hits l)).map fun (q : Nat) => ⟨2, 8 * (q : Int), 0⟩
theorem linesQ_all (l : List Int) : linesQ l 353 = (linesOf l).map fun a => ⟨2, a, 0⟩ := by
  unfold linesQ linesOf
  rw [List.map_map]
  rfl
theorem linesQ_yes {l : List Int} {k : Nat} (h : hits l k = true) : linesQ l (k + 1) = linesQ l k ++ [⟨2, 8 * (k : Int), 0⟩] := by
  unfold linesQ
  rw [List.range_succ, List.filter_append, List.map_append]
  congr 1
  rw [List.filter_cons_of_pos h]; rfl
theorem linesQ_no {l : List Int} {k : Nat} (h : hits l k = false) : linesQ l (k + 1) = linesQ l k := by
  unfold linesQ
  rw [List.range_succ, List.filter_append, List.map_append, List.filter_cons_of_neg (by rw [h]; decide)]
  simp
theorem linesQ_len (l : List Int) (k : Nat) : (linesQ l k).length ≤ k := by
  unfold linesQ
  rw [List.length_map]
  exact Nat.le_trans (List.length_filter_le _ _) (by simp)
theorem hits_at {l : List Int} {i k : Nat} (hi : i < l.length) (h : l.getD i 0 / 8 = (k : Int)) : hits l k = true :=
  List.any_eq_true.2 ⟨l.getD i 0, by simp [hi], decide_eq_true h⟩
theorem hits_none {l : List Int} {k : Nat} (h : ∀ i, i < l.length → l.getD i 0 / 8 ≠ (k : Int)) : hits l k = false := by
  cases hh : hits l k with
  | false => rfl
  | true =>
    obtain ⟨a, ha, he⟩ := List.any_eq_true.1 hh
    obtain ⟨i, hi, rfl⟩ := List.mem_iff_getElem.1 ha
    have := h i hi
    simp [hi] at this
    exact absurd (of_decide_eq_true he) this

set_option maxHeartbeats 4000000 in
set_option maxRecDepth 100000 in
theorem refLines_any (a : Option Addr) (cap : Nat) (l : List Int) (w : World) (h : IntsAt w a l) (hin : ∀ i, i < l.length → 0 ≤ l.getD i 0 ∧ l.getD i 0 < 2824) (hlen : l.length ≤ 1000000) :
    Calls Try.prog 35 #[.slice a l.length cap] w fun e w' => ∃ v, e = .returned v ∧ OwnRef w' w.heap.size v ((linesOf l).map fun a => ⟨2, a, 0⟩) ∧ Below w.heap.size w w' := by
  obtain ⟨i0, hi, hz0, hz1, hz2⟩ := info_parts Try.info35
  have H : Hid (IntsAt w a l) := h
  have HA : Hid (linesQ l 353 = (linesOf l).map fun a => ⟨2, a, 0⟩) := linesQ_all l
  obtain ⟨n, hn'⟩ : ∃ n, l.length = n := ⟨_, rfl⟩
  have HN : Hid (l.length = n) := hn'
  rw [hn'] at hin hlen ⊢
  have HI : Hid (∀ i, i < n → 0 ≤ l.getD i 0 ∧ l.getD i 0 < 2824) := hin
  have HHA : Hid (∀ i k, i < n → l.getD i 0 / 8 = ((k : Nat) : Int) → hits l k = true) := fun i k hi h => hits_at (by rw [hn']; exact hi) h
  have HHN : Hid (∀ k, (∀ i, i < n → l.getD i 0 / 8 ≠ ((k : Nat) : Int)) → hits l k = false) := fun k h => hits_none fun i hi => h i (by rw [← hn']; exact hi)
  clear h hn' hin
  go_enter Try.func35, Try.ntmps35
  go_wp2
  go_loopw [3, 4, 5] (fun v q _ wr => ∃ k : Nat, k ≤ 353 ∧ q = .int .i64 k ∧ Hid (OwnRef wr w.heap.size v (linesQ l k)) ∧ Hid (Below w.heap.size w wr)) (fun _ q _ _ => 353 - (intOf q).toNat)
  case atStart => exact ⟨0, by omega, rfl, World.ownsRow_nil _ _ _ _, Below.refl _ _⟩
  case round =>
    obtain ⟨k, hk, rfl, hown, hnx⟩ := hrel
    by_cases hlt : k < 353
    · have hk3 : (k : Int) < 353 := by omega
      go_wp2
      go_loopw [3, 5] (fun v' q wr' => ∃ j : Nat, j ≤ n ∧ q = .int .i64 j ∧ v' = u3 ∧ wr' = wr ∧ Hid (∀ i, i < j → l.getD i 0 / 8 ≠ (k : Int))) (fun _ q _ => n - (intOf q).toNat)
      case atStart => exact ⟨0, Nat.zero_le _, rfl, rfl, rfl, fun i hi => absurd hi (Nat.not_lt_zero i)⟩
      case round =>
        obtain ⟨j, hj, rfl, rfl, rfl, hno⟩ := hrel
        by_cases hjn : j < n
        · obtain ⟨b, o, rfl, hb, hc⟩ := H.out.resolve_left (fun e => by have := HN.out; rw [e] at this; simp at this; omega)
          have hjn2 : (j : Int) < (n : Int) := by omega
          have y1 := (hnx.out.cell (p := ⟨b, o + j, none⟩) hb).trans (hc j (by rw [HN.out]; exact hjn))
          have hr := HI.out j hjn
          have HYY : Hid (∀ x, l.getD j 0 = x → x / 8 = (k : Int) → hits l k = true) := fun x hx h => HHA.out j k hjn (by rw [hx]; exact h)
          obtain ⟨Y, hY⟩ : ∃ Y, l.getD j 0 = Y := ⟨_, rfl⟩
          have HY : Hid (l.getD j 0 = Y) := hY
          rw [hY] at y1 hr
          obtain ⟨hr0, hr1⟩ := hr
          obtain ⟨Q, hQ⟩ : ∃ Q, Y / 8 = Q := ⟨_, rfl⟩
          have HQ : Hid (Y / 8 = Q) := hQ
          have hq1 : Y.tdiv 8 = Q := by rw [Int.tdiv_eq_ediv_of_nonneg hr0]; exact hQ
          have hq2 : wrap64 (Y.tdiv 8) = Q := by rw [hq1]; unfold wrap64; omega
          have hq3 : IntKind.i64.wrap (Y.tdiv 8) = Q := by rw [hq1, IntKind.wrap_i64]; omega
          have hq4 : IntKind.i64.wrap Q = Q := by rw [IntKind.wrap_i64]; omega
          clear hY hc
          by_cases hqk : Q = (k : Int)
          · have HH : Hid (hits l k = true) := HYY.out Y HY.out (by rw [HQ.out]; exact hqk)
            have hb2 : (Q == (k : Int)) = true := by simpa using hqk
            have hlq := linesQ_len l k
            have HLEN : Hid (linesQ l (k + 1) = linesQ l k ++ [⟨2, 8 * (k : Int), 0⟩]) := linesQ_yes HH.out
            clear hQ hqk
            go_wp2_with (first
              | (at_builtin; refine wpList_append_own _ rfl _ _ 29 rfl w.heap.size 35 i0 (.agg #[.int .i64 0, .int .i64 0, .int .u64 0]) 3 24 Try.underlying29 hi hz0 hz1 hz2 rfl (by decide) _ _ _ rfl (World.ownsRow.alloc hown.out _) ⟨_, 0, none⟩ 1 1 [.int .i64 2, .int .i64 (8 * (k : Int)), .int .u64 0] rfl rfl ?c1 ?c2 ?c3 ?c4 ?c5 ?_)
              | go_in)
            case c1 => exact three_cells (by simp)
            case c2 => intro u hu; simp at hu; rcases hu with rfl | rfl | rfl <;> rfl
            case c3 => unfold maxLen; omega
            case c4 => omega
            case c5 => have := hnx.out.size; simp; omega
            intro v' w1 hown' hgrow _
            have hnx1 : Hid (Below w.heap.size w w1) := (hnx.out.alloc hnx.out.size _).grown hgrow (by have := hnx.out.size; simp; omega) (fun j h => (World.ownsRow.lt hown.out j h).1)
            have hown2 : Hid (OwnRef w1 w.heap.size v' (linesQ l (k + 1))) := by show OwnRef w1 w.heap.size v' (linesQ l (k + 1)); rw [HLEN.out]; exact OwnRef.more hown'
            clear hgrow hown' hown
            go_wp2
            go_roundw
            case rel => exact ⟨k + 1, by omega, by go_num, hown2.out, hnx1.out⟩
            case measure => simp [intOf]; omega
          · have HNQ : Hid (¬ Q = (k : Int)) := hqk
            have hb2 : (Q == (k : Int)) = false := by simpa using hqk
            clear hqk hQ
            go_wp2
            go_roundw
            case rel => exact ⟨j + 1, by omega, by go_num, by first | rfl | trivial, by first | rfl | trivial, fun i hi => by
              by_cases e : i = j
              · subst e; rw [HY.out, HQ.out]; exact HNQ.out
              · exact hno.out i (by omega)⟩
            case measure => simp [intOf]; omega
        · obtain rfl : j = n := by omega
          have HH : Hid (linesQ l (k + 1) = linesQ l k) := linesQ_no (HHN.out k hno.out)
          go_wp2
          go_roundw
          case rel => exact ⟨k + 1, by omega, by go_num, (by show OwnRef _ _ _ (linesQ l (k + 1)); rw [HH.out]; exact hown.out), hnx.out⟩
          case measure => simp [intOf]; omega
    · obtain rfl : k = 353 := by omega
      go_wp2
      go_ret
      exact ⟨_, rfl, by rw [← HA.out]; exact hown.out, hnx.out⟩

set_option maxHeartbeats 1000000 in
theorem refStatus_any (f v : Int) (w : World) :
    Calls Try.prog 36 #[.int .i64 f, .int .u64 v] w fun e w' => ∃ r, e = .returned r ∧ OwnRef w' w.heap.size r [⟨1, f, v⟩, ⟨2, f, 0⟩, ⟨3, 0, 0⟩] ∧ Below w.heap.size w w' := by
  go_enter Try.func36, Try.ntmps36
  go_wp2
  go_ret
  exact ⟨_, rfl, World.ownsRow_lit w #[.int .i64 1, .int .i64 f, .int .u64 v, .int .i64 2, .int .i64 f, .int .u64 0, .int .i64 3, .int .i64 0, .int .u64 0] 3 (Nat.le_refl _) (by unfold maxLen; omega) rfl, (Below.refl _ _).alloc (Nat.le_refl _) _⟩

end Go.Proofs.Ytfalchacdebdpaa
