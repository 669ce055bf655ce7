/- Contract of lines: the first word of each line that holds one of the words, in order. -/
import Derived.Test.YtfalchacdebdpaaSealA
import Derived.Test.YtfalchacdebdpaaShelf
import Derived.Test.YtfalchacdebdpaaShelfB
import Derived.Lib.OwnBridge
import Derived.Lib.SmallJoins
namespace Go.Proofs.Ytfalchacdebdpaa
open Go.RowKit Go.Maps Go.ChangeMaps Go.Shelf Go.Lib
open Go.Sort (Holds putRow grow)

theorem Try.info3 : (Try.prog.info? 3).map (fun i => (i.zero, i.size, i.bytes)) = some (some (.int .i64 0), 1, 8) := by kernel_rfl

/-- The lines of the first k changes' words. -/
def linesTo (cs : List Chg) (k : Nat) : List Int := (List.range k).map fun (i : Nat) => (cs.getD i (0, 0)).1 - (cs.getD i (0, 0)).1 % 8
theorem linesTo_succ (cs : List Chg) (k : Nat) : linesTo cs (k + 1) = linesTo cs k ++ [(cs.getD k (0, 0)).1 - (cs.getD k (0, 0)).1 % 8] := by
  simp [linesTo, List.range_succ]
theorem linesTo_len (cs : List Chg) (k : Nat) : (linesTo cs k).length = k := by simp [linesTo]
theorem linesTo_all (cs : List Chg) : linesTo cs cs.length = (cs.map (·.1)).map fun a => a - a % 8 := by
  apply List.ext_getElem (by simp [linesTo])
  intro i h1 h2
  simp [linesTo] at h1
  simp [linesTo, h1]

theorem own_holds {w : World} {base g n cap : Nat} {zs : List Int} (h : w.ownsRow base 3 1 (.slice (some ⟨g, 0, none⟩) n cap) n (zs.map (Value.int .i64))) : Holds (Value.int .i64) w g 0 zs.toArray := by
  have hl : zs.length = n := by have := h.1; simpa using this
  intro j hj
  have hj' : j < zs.length := by simpa using hj
  refine ⟨?_, by rw [Nat.zero_add]; exact h.frozenAt j⟩
  rw [Nat.zero_add, h.cellAt j (by omega)]
  simp [hj']

theorem below_grow {B : Nat} {w0 w : World} (h : Below B w0 w) (hB : B ≤ w.heap.size) (os : Array Obj) : Below B w0 (grow w os) :=
  h.trans ⟨rfl, rfl, rfl, by simp [grow], fun k hk => by simp only [grow]; rw [Array.getElem?_append_left (by omega)]⟩

/-- A row of one's own stays so while its block does. -/
theorem own_block {w w' : World} {base : Nat} {e : TypeId} {size : Nat} {v : Value} {n : Nat} {xs : List Value} (h : w.ownsRow base e size v n xs) (hb : ∀ g, v.ownBlock = some g → w'.heap[g]? = w.heap[g]?) : w'.ownsRow base e size v n xs := by
  refine ⟨h.1, ?_⟩
  rcases h.2 with h2 | ⟨g, cap, cur, rfl, r1, r2, r3⟩
  · exact .inl h2
  · exact .inr ⟨g, cap, cur, rfl, r1, (hb g rfl).trans r2, r3⟩

/-- slices.Sort of a row of the call's own. -/
theorem sort_own {w : World} {base n : Nat} {v : Value} {zs : List Int} (h : w.ownsRow base 3 1 v n (zs.map (Value.int .i64))) (hB : base ≤ w.heap.size) (hn : n ≤ 1000000) :
    Calls Try.prog 64 #[v] w fun e w' => e = .returned (.tuple #[]) ∧ w'.ownsRow base 3 1 v n ((zs.mergeSort fun x y => decide (x ≤ y)).map (Value.int .i64)) ∧ Below base w w' := by
  have hl : zs.length = n := by have := h.1; simpa using this
  rcases h.2 with ⟨rfl, h0⟩ | ⟨g, cap, cur, rfl, _⟩
  · have hz : zs = [] := List.length_eq_zero_iff.1 (by omega)
    subst hz
    refine (AnyM.slices_Sort_int_none Try.sortA none 0 w).mono ?_
    rintro e w' ⟨rfl, rfl⟩
    exact ⟨rfl, by simpa using h, Below.refl _ _⟩
  · have hg := h.lt g rfl
    subst hl
    refine (AnyM.slices_Sort_int Try.sortA g 0 cap zs w (own_holds h) hg.2 (by omega)).mono ?_
    rintro e w' ⟨rfl, m, os, rfl⟩
    have h1 := ownsRow_putRow (q := m) (k := zs.length) (ys := zs.mergeSort fun x y => decide (x ≤ y)) h (by simp) (Nat.le_refl _)
    have h2 := own_block (w' := grow (putRow (Value.int .i64) (Sort.ahead w m) g 0 (zs.mergeSort fun x y => decide (x ≤ y)).toArray) os) h1 (fun k hk => by simp only [grow]; rw [Array.getElem?_append_left (h1.lt k hk).2])
    have b1 : Below base w (putRow (Value.int .i64) (Sort.ahead w m) g 0 (zs.mergeSort fun x y => decide (x ≤ y)).toArray) := below_putRow (Below.refl _ _) hg.1
    refine ⟨rfl, ?_, below_grow b1 (Nat.le_trans hB b1.size) os⟩
    rw [List.take_of_length_le (by simp)] at h2
    exact h2

/-- slices.Compact of a row of the call's own. -/
theorem compact_own {w : World} {base n : Nat} {v : Value} {zs : List Int} (h : w.ownsRow base 3 1 v n (zs.map (Value.int .i64))) (hn : n ≤ 1000000) :
    Calls Try.prog 68 #[v] w fun e w' => ∃ v', e = .returned v' ∧ w'.ownsRow base 3 1 v' (compact zs).length ((compact zs).map (Value.int .i64)) ∧ Below base w w' := by
  have hl : zs.length = n := by have := h.1; simpa using this
  rcases h.2 with ⟨rfl, h0⟩ | ⟨g, cap, cur, rfl, _, _, hcap, _⟩
  · have hz : zs = [] := List.length_eq_zero_iff.1 (by omega)
    subst hz
    subst h0
    refine (AnyG.slices_Compact_int_empty Try.compactA none 0 w).mono ?_
    rintro e w' ⟨rfl, rfl⟩
    exact ⟨_, rfl, h, Below.refl _ _⟩
  · have hg := h.lt g rfl
    subst hl
    refine (AnyG.slices_Compact_int Try.compactA g 0 cap zs w (own_holds h) (by omega) hcap).mono ?_
    rintro e w' ⟨rfl, q, rfl⟩
    have hc := compact_length_le zs
    have h1 := ownsRow_putRow (q := q) (k := (compact zs).length) (ys := compact zs ++ List.replicate (zs.length - (compact zs).length) 0) h (by simp; omega) hc
    rw [List.take_left] at h1
    exact ⟨_, rfl, h1, below_putRow (Below.refl _ _) hg.1⟩

set_option maxHeartbeats 1000000 in
theorem lines_any (a : Option Addr) (cap : Nat) (cs : List Chg) (w : World) (h : ChgsAt w a cs) (hin : ∀ i, i < cs.length → 0 ≤ (cs.getD i (0, 0)).1 ∧ (cs.getD i (0, 0)).1 < 2824) (hlen : cs.length ≤ 1000000) :
    Calls Try.prog 54 #[.slice a cs.length cap] w fun e w' => ∃ v, e = .returned v ∧ w'.ownsRow w.heap.size 3 1 v (linesOf (cs.map (·.1))).length ((linesOf (cs.map (·.1))).map (Value.int .i64)) ∧ Below w.heap.size w w' := by
  obtain ⟨i0, hi, hz0, hz1, hz2⟩ := info_parts Try.info3
  have HL : Hid (compact ((linesTo cs cs.length).mergeSort fun x y => decide (x ≤ y)) = linesOf (cs.map (·.1))) := by
    rw [linesTo_all]
    refine lines_sorted _ fun x hx => ?_
    obtain ⟨c, hc, rfl⟩ := List.mem_map.1 hx
    obtain ⟨i, hi, rfl⟩ := List.mem_iff_getElem.1 hc
    have := hin i hi
    simpa [hi] using this
  have H : Hid (ChgsAt w a cs) := h
  obtain ⟨n, hn'⟩ : ∃ n, cs.length = n := ⟨_, rfl⟩
  have HN : Hid (cs.length = n) := hn'
  rw [hn'] at hlen hin HL ⊢
  have HI : Hid (∀ i, i < n → 0 ≤ (cs.getD i (0, 0)).1 ∧ (cs.getD i (0, 0)).1 < 2824) := hin
  clear h hn' hin
  go_enter Try.func54, Try.ntmps54
  go_wp2
  go_loopw [3, 8] (fun v i wr => ∃ k : Nat, k ≤ n ∧ i = .int .i64 k ∧ wr.ownsRow w.heap.size 3 1 v k ((linesTo cs k).map (Value.int .i64)) ∧ Below w.heap.size w wr) (fun _ i _ => n - (intOf i).toNat)
  case atStart => exact ⟨0, Nat.zero_le _, rfl, World.ownsRow_nil _ _ _ _, Below.refl _ _⟩
  case round =>
    obtain ⟨k, hk, rfl, hown, hnx⟩ := hrel
    by_cases hlt : k < n
    · obtain ⟨b, o, rfl, hb, hc⟩ := H.out.resolve_left (fun e => by have := HN.out; rw [e] at this; simp at this; omega)
      have hkn : (k : Int) < (n : Int) := by omega
      have x1 := (hnx.cell (p := ⟨b, o + k * 2, none⟩) hb).trans (hc k (by rw [HN.out]; exact hlt)).1
      have x2 := (hnx.cell (p := ⟨b, o + k * 2 + 1, none⟩) hb).trans (hc k (by rw [HN.out]; exact hlt)).2
      have HS : Hid (linesTo cs (k + 1) = linesTo cs k ++ [(cs.getD k (0, 0)).1 - (cs.getD k (0, 0)).1 % 8]) := linesTo_succ cs k
      have hr := HI.out k hlt
      clear hc
      obtain ⟨X, hX⟩ : ∃ X, (cs.getD k (0, 0)).1 = X := ⟨_, rfl⟩
      obtain ⟨Y, hY⟩ : ∃ Y, (cs.getD k (0, 0)).2 = Y := ⟨_, rfl⟩
      rw [hX] at x1 HS hr
      rw [hY] at x2
      obtain ⟨hr0, hr1⟩ := hr
      clear hX hY
      go_wp2_with (first
        | (at_builtin; refine wpList_append_own _ rfl _ _ 50 rfl w.heap.size 3 i0 (.int .i64 0) 1 8 Try.underlying50 hi hz0 hz1 hz2 rfl (by decide) _ _ _ rfl ((hown.alloc _).alloc _) ⟨_, 0, none⟩ 1 1 [.int .i64 (X - X % 8)] rfl rfl ?c1 ?c2 ?c3 ?c4 ?c5 ?_)
        | go_in)
      case c1 =>
        intro j u hj
        match j, hj with
        | 0, hj => simp at hj; subst hj; simp [Addr.add]
      case c2 => intro u hu; simp at hu; subst hu; rfl
      case c3 => unfold maxLen; omega
      case c4 => omega
      case c5 => have := hnx.size; simp; omega
      intro v' w1 hown' hgrow _
      have hnx1 : Below w.heap.size w w1 := ((hnx.alloc hnx.size _).alloc (by have := hnx.size; simp; omega) _).grown hgrow (by have := hnx.size; simp; omega) (fun j h => (hown.lt j h).1)
      have hown2 : w1.ownsRow w.heap.size 3 1 v' (k + 1) ((linesTo cs (k + 1)).map (Value.int .i64)) := by rw [HS.out, List.map_append]; exact hown'
      clear hgrow hown hown'
      go_wp2
      go_roundw
      case rel => exact ⟨k + 1, by omega, by go_num, hown2, hnx1⟩
      case measure => simp [intOf]; omega
    · obtain rfl : k = n := by omega
      go_wp2_with fail
      refine (sort_own hown hnx.size (by omega)).mono ?_
      rintro e w1 ⟨rfl, hown1, b1⟩
      go_wp2_with fail
      refine (compact_own hown1 (by omega)).mono ?_
      rintro e w2 ⟨v', rfl, hown2, b2⟩
      go_wp2
      go_ret
      rw [HL.out] at hown2
      exact ⟨v', rfl, hown2, (hnx.trans b1).trans b2⟩

end Go.Proofs.Ytfalchacdebdpaa
