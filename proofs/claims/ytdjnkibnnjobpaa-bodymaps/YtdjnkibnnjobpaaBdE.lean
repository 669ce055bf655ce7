/- Contract of pieces: in which pieces the bytes of a file lie. -/
import Derived.Test.YtdjnkibnnjobpaaBdABC
import Derived.Laws.AppendOwn
namespace Go.Proofs.Ytdjnkibnnjobpaa
open Go.RowKit Go.Maps Go.ChangeMaps

/-- A piece of place p of the bytes from at on, ahead of en. -/
def fromP (at_ p : Nat) : Nat := at_ - 128 * p
def toP (en p : Nat) : Nat := min (en - 128 * p) 128
def pcVals (at_ en q : Nat) (n : Nat) : List Value := (List.range n).flatMap fun i => [.int .i64 ((q + i : Nat) : Int), .int .i64 ((fromP at_ (q + i) : Nat) : Int), .int .i64 ((toP en (q + i) : Nat) : Int)]
theorem pcVals_zero (at_ en q : Nat) : pcVals at_ en q 0 = [] := rfl
theorem pcVals_succ (at_ en q n : Nat) : pcVals at_ en q (n + 1) = pcVals at_ en q n ++ [.int .i64 ((q + n : Nat) : Int), .int .i64 ((fromP at_ (q + n) : Nat) : Int), .int .i64 ((toP en (q + n) : Nat) : Int)] := by
  unfold pcVals
  rw [List.range_succ, List.flatMap_append]
  simp
theorem pcVals_len (at_ en q n : Nat) : (pcVals at_ en q n).length = n * 3 := by
  induction n with
  | zero => rfl
  | succ n ih => rw [pcVals_succ, List.length_append, ih]; simp; omega
theorem pcVals_at (at_ en q n i : Nat) (hi : i < n) : (pcVals at_ en q n)[i * 3]? = some (.int .i64 ((q + i : Nat) : Int)) ∧ (pcVals at_ en q n)[i * 3 + 1]? = some (.int .i64 ((fromP at_ (q + i) : Nat) : Int)) ∧ (pcVals at_ en q n)[i * 3 + 2]? = some (.int .i64 ((toP en (q + i) : Nat) : Int)) := by
  induction n with
  | zero => omega
  | succ n ih =>
    rw [pcVals_succ]
    by_cases e : i < n
    · obtain ⟨h1, h2, h3⟩ := ih e
      rw [List.getElem?_append_left (by rw [pcVals_len]; omega), List.getElem?_append_left (by rw [pcVals_len]; omega), List.getElem?_append_left (by rw [pcVals_len]; omega)]
      exact ⟨h1, h2, h3⟩
    · obtain rfl : i = n := by omega
      rw [List.getElem?_append_right (by rw [pcVals_len]; omega), List.getElem?_append_right (by rw [pcVals_len]; omega), List.getElem?_append_right (by rw [pcVals_len]; omega), pcVals_len]
      have e1 : i * 3 - i * 3 = 0 := by omega
      have e2 : i * 3 + 1 - i * 3 = 1 := by omega
      have e3 : i * 3 + 2 - i * 3 = 2 := by omega
      rw [e1, e2, e3]
      exact ⟨rfl, rfl, rfl⟩
/-- How many pieces. -/
def pcHi (at_ en : Nat) : Nat := if at_ < en then (en - 1) / 128 + 1 else 0
def pcN (at_ en : Nat) : Nat := pcHi at_ en - at_ / 128
def pcTo (at_ en j : Nat) : Nat := min j (pcHi at_ en) - at_ / 128
/-- Pieces lie at a slice's address. -/
def PcsAt (w : World) (a : Option Addr) (at_ en n : Nat) : Prop := n = 0 ∨ ∃ b, a = some ⟨b, 0, none⟩ ∧ b < w.heap.size ∧ ∀ i, i < n → w.cell? ⟨b, i * 3, none⟩ = some (.int .i64 ((at_ / 128 + i : Nat) : Int)) ∧ w.cell? ⟨b, i * 3 + 1, none⟩ = some (.int .i64 ((fromP at_ (at_ / 128 + i) : Nat) : Int)) ∧ w.cell? ⟨b, i * 3 + 2, none⟩ = some (.int .i64 ((toP en (at_ / 128 + i) : Nat) : Int))
theorem PcsAt.later {w w' : World} {a : Option Addr} {at_ en n : Nat} (h : PcsAt w a at_ en n) (hb : Below w.heap.size w w') : PcsAt w' a at_ en n := by
  rcases h with h | ⟨b, e, hlt, hc⟩
  · exact .inl h
  · exact .inr ⟨b, e, by have := hb.size; omega, fun i hi => by
      have hx : ∀ o, w'.cell? ⟨b, o, none⟩ = w.cell? ⟨b, o, none⟩ := fun o => World.cell?_of_block (a := ⟨b, o, none⟩) (hb.block b hlt)
      rw [hx, hx, hx]; exact hc i hi⟩
theorem PcsAt.only {w w' : World} {a : Option Addr} {at_ en n : Nat} {X : List Nat} (h : PcsAt w a at_ en n) (ho : Only X w w') (hX : ∀ b, a.map (·.block) = some b → b ∉ X) : PcsAt w' a at_ en n := by
  rcases h with h | ⟨b, rfl, hlt, hc⟩
  · exact .inl h
  · have hb := ho.block b hlt (hX b rfl)
    exact .inr ⟨b, rfl, by have := ho.size; omega, fun i hi => by
      have hx : ∀ o, w'.cell? ⟨b, o, none⟩ = w.cell? ⟨b, o, none⟩ := fun o => World.cell?_of_block (a := ⟨b, o, none⟩) hb
      rw [hx, hx, hx]; exact hc i hi⟩
theorem Try.infoP : (Try.prog.info? 88).map (fun i => (i.zero, i.size, i.bytes)) = some (some (.agg #[.int .i64 0, .int .i64 0, .int .i64 0]), 3, 24) := by kernel_rfl
theorem three_cells {w : World} {B : Nat} {x y z : Value} {t : TypeId} (hB : w.heap.size = B) : ∀ (j : Nat) (r : Value), [x, y, z][j]? = some r → (w.alloc (.cells #[x, y, z] t)).cell? ((⟨B, 0, none⟩ : Addr).add j) = some r := by
  subst hB
  intro j u hj
  match j, hj with
  | 0, hj => simp at hj; subst hj; simp [Addr.add]
  | 1, hj => simp at hj; subst hj; simp [Addr.add]
  | 2, hj => simp at hj; subst hj; simp [Addr.add]

theorem pcTo_stop {at_ E j : Nat} (h : E ≤ 128 * j) : pcTo at_ E j = pcN at_ E := by
  unfold pcTo pcN pcHi
  by_cases e : at_ < E
  · rw [if_pos e, Nat.min_eq_right (by omega)]
  · rw [if_neg e, Nat.min_eq_right (by omega)]
theorem pcTo_end {at_ E : Nat} (h : E ≤ 2688) : pcTo at_ E 21 = pcN at_ E := pcTo_stop (by omega)
theorem pcTo_skip {at_ E j : Nat} (h : E ≤ at_ ∨ 128 * j + 128 ≤ at_) : pcTo at_ E (j + 1) = pcTo at_ E j := by
  unfold pcTo pcHi
  by_cases e : at_ < E
  · rw [if_pos e]
    have h1 : min (j + 1) ((E - 1) / 128 + 1) ≤ j + 1 := Nat.min_le_left _ _
    have h2 : min j ((E - 1) / 128 + 1) ≤ j := Nat.min_le_left _ _
    omega
  · rw [if_neg e]
    have h1 : min (j + 1) 0 = 0 := Nat.min_zero _
    have h2 : min j 0 = 0 := Nat.min_zero _
    rw [h1, h2]
theorem pcTo_more {at_ E j : Nat} (h1 : at_ < E) (h2 : at_ < 128 * j + 128) (h3 : 128 * j < E) : pcTo at_ E (j + 1) = pcTo at_ E j + 1 ∧ at_ / 128 + pcTo at_ E j = j := by
  unfold pcTo pcHi
  rw [if_pos h1]
  have e1 : min (j + 1) ((E - 1) / 128 + 1) = j + 1 := Nat.min_eq_left (by omega)
  have e2 : min j ((E - 1) / 128 + 1) = j := Nat.min_eq_left (by omega)
  rw [e1, e2]
  omega
theorem pcTo_le (at_ E j : Nat) : pcTo at_ E j ≤ j := by
  unfold pcTo
  have : min j (pcHi at_ E) ≤ j := Nat.min_le_left _ _
  omega
/-- What the row of pieces is, when the call is over. -/
theorem pcs_of_row {w : World} {B : Nat} {v : Value} {at_ E n : Nat} (h : w.ownsRow B 88 3 v n (pcVals at_ E (at_ / 128) n)) : ∃ a c, v = .slice a n c ∧ PcsAt w a at_ E n ∧ ∀ b, a.map (·.block) = some b → B ≤ b ∧ b < w.heap.size := by
  have h' := h
  obtain ⟨h0, h1⟩ := h
  rcases h1 with ⟨rfl, h2⟩ | ⟨g, cap, cur, rfl, h2, h3, h4, h5⟩
  · exact ⟨none, 0, by rw [h2], .inl h2, fun b e => by simp at e⟩
  · refine ⟨_, cap, rfl, .inr ⟨g, rfl, (Array.getElem?_eq_some_iff.1 h3).1, fun i hi => ?_⟩, fun b e => by simp at e; subst e; exact ⟨h2, (Array.getElem?_eq_some_iff.1 h3).1⟩⟩
    obtain ⟨x1, x2, x3⟩ := pcVals_at at_ E (at_ / 128) n i hi
    rw [h'.cellAt _ (by omega), h'.cellAt _ (by omega), h'.cellAt _ (by omega)]
    exact ⟨x1, x2, x3⟩

set_option maxHeartbeats 4000000 in
set_option maxRecDepth 100000 in
theorem pieces_any (at_ : Nat) (en : Int) (w : World) (h1 : at_ ≤ 2688) (h2 : en ≤ 2688) (h3 : -4611686018427387904 ≤ en) :
    Calls Try.prog 36 #[.int .i64 at_, .int .i64 en] w fun e w' => ∃ a c, e = .returned (.slice a (pcN at_ en.toNat) c) ∧ PcsAt w' a at_ en.toNat (pcN at_ en.toNat) ∧ (∀ b, a.map (·.block) = some b → w.heap.size ≤ b ∧ b < w'.heap.size) ∧ Below w.heap.size w w' := by
  obtain ⟨i0, hi, hz0, hz1, hz2⟩ := info_parts Try.infoP
  obtain ⟨E, hE⟩ : ∃ E : Nat, en.toNat = E := ⟨_, rfl⟩
  have HE : Hid (en.toNat = E) := hE
  rw [hE]
  clear hE
  go_enter Try.func36, Try.ntmps36
  go_wp2
  go_step3
  go_wp2
  go_step3
  go_wp2
  go_loopg [5, 6, 7, 8, 9] 21 (fun gh v _ _ _ i wr => ∃ j : Nat, j + gh = 21 ∧ i = .int .i64 j ∧ Hid (wr.ownsRow w.heap.size 88 3 v (pcTo at_ E j) (pcVals at_ E (at_ / 128) (pcTo at_ E j))) ∧ Below w.heap.size w wr)
  case atStart => exact ⟨0, by omega, rfl, by show World.ownsRow _ _ _ _ _ _ _; rw [show pcTo at_ E 0 = 0 from Nat.le_zero.1 (pcTo_le _ _ _)]; exact World.ownsRow_nil _ _ _ _, Below.refl _ _⟩
  case round =>
    obtain ⟨j, hj, rfl, HO, hnx⟩ := hrel
    cases gk with
    | succ gh =>
      have hlt : j < 21 := by omega
      have hb : (j : Int) < 21 := by omega
      by_cases c1 : en ≤ (j : Int) * 128
      · have HS : Hid (pcTo at_ E j = pcN at_ E) := pcTo_stop (by have := HE.out; omega)
        have f1 : min (en - (j : Int) * 128) 128 ≤ 0 := by omega
        go_wp2
        obtain ⟨a, c, rfl, hp, hbb⟩ := pcs_of_row HO.out
        rw [Exit.noGoto_ret]
        go_ret
        refine ⟨a, c, by rw [HS.out]; rfl, ?_, fun b hb => ⟨(hbb b hb).1, by have := (hbb b hb).2; simp; omega⟩, hnx.alloc hnx.size _⟩
        rw [← HS.out]; exact hp.later ((Below.refl _ _).alloc (Nat.le_refl _) _)
      · by_cases c2 : en ≤ (at_ : Int) ∨ (j : Int) * 128 + 128 ≤ (at_ : Int)
        · have HS : Hid (pcTo at_ E (j + 1) = pcTo at_ E j) := pcTo_skip (by have := HE.out; omega)
          have f1 : ¬ min (en - (j : Int) * 128) 128 ≤ 0 := by omega
          have f2 : ¬ max ((at_ : Int) - (j : Int) * 128) 0 < min (en - (j : Int) * 128) 128 := by omega
          go_wp2
          go_roundg gh
          case measure => omega
          case rel => exact ⟨j + 1, by omega, by go_num, by show World.ownsRow _ _ _ _ _ _ _; rw [HS.out]; exact HO.out.alloc _, hnx.alloc hnx.size _⟩
        · have HS := pcTo_more (at_ := at_) (E := E) (j := j) (by have := HE.out; omega) (by omega) (by have := HE.out; omega)
          have hle := pcTo_le at_ E j
          have HT : Hid (pcVals at_ E (at_ / 128) (pcTo at_ E (j + 1)) = pcVals at_ E (at_ / 128) (pcTo at_ E j) ++ [.int .i64 (j : Int), .int .i64 ((fromP at_ j : Nat) : Int), .int .i64 ((toP E j : Nat) : Int)]) := by
            show _ = _
            rw [HS.1, pcVals_succ, HS.2]
          have HN : Hid (pcTo at_ E (j + 1) = pcTo at_ E j + 1) := HS.1
          have HO' := HO.out
          obtain ⟨n, hn⟩ : ∃ n, pcTo at_ E j = n := ⟨_, rfl⟩
          rw [hn] at HT HN HO' hle
          clear HS hn
          have f1 : ¬ min (en - (j : Int) * 128) 128 ≤ 0 := by omega
          have f2 : max ((at_ : Int) - (j : Int) * 128) 0 < min (en - (j : Int) * 128) 128 := by omega
          have HF : Hid (max ((at_ : Int) - (j : Int) * 128) 0 = ((fromP at_ j : Nat) : Int)) := by show _ = _; unfold fromP; omega
          have HTo : Hid (min (en - (j : Int) * 128) 128 = ((toP E j : Nat) : Int)) := by
            show _ = _
            have := HE.out
            unfold toP
            omega
          go_wp2_with (first
            | (at_builtin; refine wpList_append_own _ rfl _ _ 85 rfl w.heap.size 88 i0 (.agg #[.int .i64 0, .int .i64 0, .int .i64 0]) 3 24 Try.underlying85 hi hz0 hz1 hz2 rfl (by decide) _ _ _ rfl (World.ownsRow.alloc (World.ownsRow.alloc HO' _) _) ⟨_, 0, none⟩ 1 1 [.int .i64 (j : Int), .int .i64 (max ((at_ : Int) - (j : Int) * 128) 0), .int .i64 (min (en - (j : Int) * 128) 128)] rfl rfl ?q1 ?q2 ?q3 ?q4 ?q5 ?_)
            | go_in)
          case q2 => exact ⟨rfl, rfl, rfl⟩
          case q3 => unfold maxLen; omega
          case q4 => omega
          case q5 => have := hnx.size; simp; omega
          intro v' w2 hown' hgrow _
          have hnx2 : Below w.heap.size w w2 := ((hnx.alloc hnx.size _).alloc (by have := hnx.size; simp; omega) _).grown hgrow (by have := hnx.size; simp; omega) (fun j h => (World.ownsRow.lt HO' j h).1)
          have hown2 : Hid (w2.ownsRow w.heap.size 88 3 v' (pcTo at_ E (j + 1)) (pcVals at_ E (at_ / 128) (pcTo at_ E (j + 1)))) := by
            show World.ownsRow _ _ _ _ _ _ _
            rw [HT.out, HN.out, ← HF.out, ← HTo.out]
            exact hown'
          clear hgrow HO HO' hown'
          go_wp2
          go_roundg gh
          case measure => omega
          case rel => exact ⟨j + 1, by omega, by go_num, hown2, hnx2⟩
    | zero =>
      obtain rfl : j = 21 := by omega
      have HS : Hid (pcTo at_ E 21 = pcN at_ E) := pcTo_end (by have := HE.out; omega)
      go_wp2
      obtain ⟨a, c, rfl, hp, hbb⟩ := pcs_of_row HO.out
      go_ret
      refine ⟨a, c, by rw [HS.out]; rfl, ?_, hbb, hnx⟩
      rw [← HS.out]; exact hp

end Go.Proofs.Ytdjnkibnnjobpaa
