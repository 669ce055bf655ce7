/- Contracts of Bins and of the document's Bins, for every two lists. -/
import Derived.Test.YtnebmbabfghlaaaDoorReads
import Derived.Deep.LoopGhost
namespace Go.Proofs.YtnebmbabfghlaaaDoor
open Go.RowKit

/-- The first edge that x isn't behind; else how many edges there are. -/
def edgeN (es : List Nat) (x : Nat) : Nat := es.findIdx (fun e => !ah e x)
def binStep (es : List Nat) (bs : List Nat) (x : Nat) : List Nat := bs.set (edgeN es x) (bs.getD (edgeN es x) 0 + 1)
def binsN (es xs : List Nat) : List Nat := xs.foldl (binStep es) (List.replicate (es.length + 1) 0)
def iRow (bs : List Nat) : List Value := bs.map fun b : Nat => Value.int .i64 (b : Int)

theorem edge_le (es : List Nat) (x : Nat) : edgeN es x ≤ es.length := List.findIdx_le_length
theorem edge_at (es : List Nat) (x j : Nat) (hj : j < es.length) (h1 : ∀ i, i < j → ah (nth es i) x = true) (h2 : ah (nth es j) x = false) : edgeN es x = j := by
  unfold edgeN
  rw [List.findIdx_eq hj]
  refine ⟨by simpa [nth, List.getD, hj] using h2, fun i hi => ?_⟩
  have := h1 i hi
  have hi' : i < es.length := by omega
  simpa [nth, List.getD, hi'] using this
theorem edge_end (es : List Nat) (x : Nat) (h1 : ∀ i, i < es.length → ah (nth es i) x = true) : edgeN es x = es.length := by
  unfold edgeN
  apply List.findIdx_eq_length_of_false
  intro e he
  obtain ⟨i, hi, rfl⟩ := List.getElem_of_mem he
  have := h1 i hi
  simpa [nth, List.getD, hi] using this

theorem bins_len (es xs : List Nat) : (binsN es xs).length = es.length + 1 := by
  unfold binsN
  have : ∀ (l bs : List Nat), (l.foldl (binStep es) bs).length = bs.length := by
    intro l
    induction l with
    | nil => intro bs; rfl
    | cons x l ih => intro bs; rw [List.foldl_cons, ih]; simp [binStep]
  rw [this]; simp
theorem bins_step (es xs : List Nat) (k : Nat) (h : k < xs.length) : binsN es (xs.take (k + 1)) = binStep es (binsN es (xs.take k)) (nth xs k) := by
  rw [take_snoc xs k h]; unfold binsN; rw [List.foldl_append]; rfl
theorem bins_le (es xs : List Nat) (j : Nat) : (binsN es xs).getD j 0 ≤ xs.length := by
  have key : ∀ (l bs : List Nat) (n : Nat), (∀ j, bs.getD j 0 ≤ n) → ∀ j, (l.foldl (binStep es) bs).getD j 0 ≤ n + l.length := by
    intro l
    induction l with
    | nil => intro bs n h j; exact h j
    | cons x l ih =>
      intro bs n h j
      rw [List.foldl_cons, List.length_cons]
      have := ih (binStep es bs x) (n + 1) (fun i => by
        unfold binStep
        by_cases e : edgeN es x = i
        · subst e
          by_cases hl : edgeN es x < bs.length
          · have hh := h (edgeN es x)
            simp only [List.getD_eq_getElem?_getD, List.getElem?_set_self hl, Option.getD_some] at hh ⊢
            omega
          · rw [List.set_eq_of_length_le (by omega)]; have := h (edgeN es x); omega
        · simp only [List.getD_eq_getElem?_getD, List.getElem?_set_ne e]
          have := h i
          simp only [List.getD_eq_getElem?_getD] at this
          omega) j
      omega
  have := key xs (List.replicate (es.length + 1) 0) 0 (fun j => by
    simp only [List.getD_eq_getElem?_getD, List.getElem?_replicate]; split <;> simp) j
  unfold binsN; omega
theorem iRow_at (bs : List Nat) (j : Nat) (h : j < bs.length) : (iRow bs)[j]? = some (.int .i64 ((bs.getD j 0 : Nat) : Int)) := by
  simp [iRow, List.getD, h]
theorem iRow_set (bs : List Nat) (j v : Nat) : (iRow bs).set j (.int .i64 (v : Int)) = iRow (bs.set j v) := by
  simp [iRow, List.map_set]
theorem iRow_step (es bs : List Nat) (x j v : Nat) (hj : edgeN es x = j) (hv : bs.getD j 0 = v) : (iRow bs).set j (.int .i64 ((v : Int) + 1)) = iRow (binStep es bs x) := by
  unfold binStep
  rw [hj, hv, ← iRow_set]; rfl
theorem made_ints (n : Nat) : (madeCells #[Value.int .i64 0] n).toList = iRow (List.replicate n 0) := by
  rw [toList_madeCells_one]; simp [iRow]
theorem info3 : (Tryd.prog.info? 3).map (fun i => (i.zero, i.size, i.bytes)) = some (some (Value.int .i64 0), 1, 8) := by kernel_rfl

set_option maxHeartbeats 2000000 in
theorem bins_any (a b : Option Addr) (capa capb : Nat) (xs es : List Nat) (w : World) (ha : FAt w a xs) (hb : FAt w b es) :
    Calls Tryd.prog 33 #[.slice a xs.length capa, .slice b es.length capb] w fun e w' => e = .returned (.slice (some ⟨w.heap.size, 0, none⟩) (es.length + 1) (es.length + 1)) ∧
      w'.ownsRow w.heap.size 3 1 (.slice (some ⟨w.heap.size, 0, none⟩) (es.length + 1) (es.length + 1)) (es.length + 1) (iRow (binsN es xs)) ∧ Below w.heap.size w w' := by
  obtain ⟨i0, hi, hz0, hz1, hz2⟩ := info_parts info3
  have HA : Hid (FAt w a xs) := ha
  have HB : Hid (FAt w b es) := hb
  have hla := ha.1
  have hlb := hb.1
  clear ha hb
  generalize hn : xs.length = n at *
  generalize hm : es.length = m at *
  have HN : Hid (xs.length = n) := hn
  have HM : Hid (es.length = m) := hm
  clear hn hm
  go_enter Tryd.func33, Tryd.ntmps33
  go_wp2
  go_step3
  go_wp2_with (at_make; refine wpList_make_full _ rfl _ _ 40 rfl w.heap.size 3 i0 (.int .i64 0) 1 Tryd.underlying40 hi hz0 hz1 _ _ _ _ (m + 1) rfl rfl (by go_num) (by go_num) ?b2 ?b3 (Nat.le_refl _) ?_)
  case b2 => rw [hz2]; omega
  case b3 => unfold maxLen; omega
  intro w0 hown0 hgrow0
  have hnx0 : Below w.heap.size w w0 := (Below.refl _ _).grown hgrow0 (Nat.le_refl _) (fun k h => by cases h)
  have HO0 : Hid (w0.ownsRow w.heap.size 3 1 (.slice (some ⟨w.heap.size, 0, none⟩) (m + 1) (m + 1)) (m + 1) (iRow (binsN es (xs.take 0)))) := by
    have e : (madeCells #[Value.int .i64 0] (m + 1)).toList = iRow (binsN es (xs.take 0)) := by rw [made_ints, ← HM.out]; rfl
    have h2 := hown0
    rw [e] at h2
    exact h2
  clear hown0 hgrow0
  go_wp2
  go_step3
  go_wp2
  go_loopg [7, 8, 9, 16] n (fun g _ _ _ i wr => ∃ k : Nat, k + g = n ∧ i = .int .i64 k ∧ wr.ownsRow w.heap.size 3 1 (.slice (some ⟨w.heap.size, 0, none⟩) (m + 1) (m + 1)) (m + 1) (iRow (binsN es (xs.take k))) ∧ Below w.heap.size w wr)
  case atStart => exact ⟨0, by omega, rfl, HO0.out, hnx0⟩
  case round =>
    obtain ⟨k, hk, rfl, hown, hnx⟩ := hrel
    have HO : Hid (wr.ownsRow w.heap.size 3 1 (.slice (some ⟨w.heap.size, 0, none⟩) (m + 1) (m + 1)) (m + 1) (iRow (binsN es (xs.take k)))) := hown
    clear hown HO0
    cases gk with
    | succ g =>
      have hlt : k < n := by omega
      have hlti : (k : Int) < (n : Int) := by omega
      obtain ⟨ba, oa, rfl, hba, hca⟩ := HA.out.at_ (by rw [HN.out]; omega)
      have ck : wr.cell? ⟨ba, oa + k, none⟩ = some (.float .f64 (nth xs k)) := (hnx.cell (p := ⟨ba, oa + k, none⟩) hba).trans (hca k (by rw [HN.out]; exact hlt))
      clear hca
      have HS : Hid (binsN es (xs.take (k + 1)) = binStep es (binsN es (xs.take k)) (nth xs k)) := bins_step es xs k (by rw [HN.out]; exact hlt)
      have HL : Hid ((binsN es (xs.take k)).length = m + 1) := by rw [bins_len, HM.out]; rfl
      have HLE : Hid (∀ j, (binsN es (xs.take k)).getD j 0 ≤ 100) := fun j => by
        have := bins_le es (xs.take k) j
        rw [List.length_take] at this; omega
      go_wp2
      go_loopg [8, 9, 22] m (fun g2 _ _ i wy => ∃ j : Nat, j + g2 = m ∧ i = .int .i64 j ∧ wr = wy ∧ Aside (∀ i, i < j → ah (nth es i) (nth xs k) = true))
      case atStart => exact ⟨0, by omega, rfl, rfl, fun i hi => by omega⟩
      case round =>
        obtain ⟨j, hj, rfl, rfl, hjj⟩ := hrel
        cases gk with
        | succ g2 =>
          have hltj : j < m := by omega
          have hltji : (j : Int) < (m : Int) := by omega
          obtain ⟨be, oe, rfl, hbe, hce⟩ := HB.out.at_ (by rw [HM.out]; omega)
          have cj : wr.cell? ⟨be, oe + j, none⟩ = some (.float .f64 (nth es j)) := (hnx.cell (p := ⟨be, oe + j, none⟩) hbe).trans (hce j (by rw [HM.out]; exact hltj))
          clear hce
          cases hah : ah (nth es j) (nth xs k) with
          | true =>
            go_wp2_with fail
            refine (ahead_any _ _ _).mono ?_
            rw [hah]
            rintro e w' ⟨rfl, rfl⟩
            go_wp2
            go_roundg g2
            case measure => omega
            case rel => exact ⟨j + 1, by omega, by go_num, rfl, fun i hi => by
              rcases Nat.lt_or_ge i j with h | h
              · exact hjj.out i h
              · have e : i = j := by omega
                rw [e]; exact hah⟩
          | false =>
            have HE : Hid (edgeN es (nth xs k) = j) := edge_at es _ j (by rw [HM.out]; exact hltj) hjj.out hah
            obtain ⟨q, hq⟩ : ∃ q, q = (binsN es (xs.take k)).getD j 0 := ⟨_, rfl⟩
            have hq100 : q ≤ 100 := by rw [hq]; exact HLE.out j
            have cq : wr.cell? ⟨w.heap.size, j, none⟩ = some (.int .i64 (q : Int)) := by
              rw [HO.out.cellAt j (by omega), iRow_at _ _ (by rw [HL.out]; omega), hq]
            have fq : wr.frozen? ⟨w.heap.size, j, none⟩ = false := HO.out.frozenAt _
            have HR : Hid ((iRow (binsN es (xs.take k))).set j (.int .i64 ((q : Int) + 1)) = iRow (binStep es (binsN es (xs.take k)) (nth xs k))) := iRow_step es _ _ j q HE.out hq.symm
            have hjm : (j : Int) < (m : Int) + 1 := by omega
            clear hq
            go_wp2_with fail
            refine (ahead_any _ _ _).mono ?_
            rw [hah]
            rintro e w' ⟨rfl, rfl⟩
            go_wp2
            go_roundg g
            case measure => omega
            case rel => exact ⟨k + 1, by omega, by go_num, by rw [HS.out, ← HR.out]; exact (HO.out.stored j _).1, hnx.setCell (Nat.le_refl _) _⟩
        | zero =>
          obtain rfl : j = m := by omega
          have HE : Hid (edgeN es (nth xs k) = j) := by
            have := edge_end es (nth xs k) (fun i hi => hjj.out i (by rw [HM.out] at hi; exact hi))
            rw [HM.out] at this; exact this
          obtain ⟨q, hq⟩ : ∃ q, q = (binsN es (xs.take k)).getD j 0 := ⟨_, rfl⟩
          have hq100 : q ≤ 100 := by rw [hq]; exact HLE.out j
          have cq : wr.cell? ⟨w.heap.size, j, none⟩ = some (.int .i64 (q : Int)) := by
            rw [HO.out.cellAt j (by omega), iRow_at _ _ (by rw [HL.out]; omega), hq]
          have fq : wr.frozen? ⟨w.heap.size, j, none⟩ = false := HO.out.frozenAt _
          have HR : Hid ((iRow (binsN es (xs.take k))).set j (.int .i64 ((q : Int) + 1)) = iRow (binStep es (binsN es (xs.take k)) (nth xs k))) := iRow_step es _ _ j q HE.out hq.symm
          clear hq
          go_wp2
          go_roundg g
          case measure => omega
          case rel => exact ⟨k + 1, by omega, by go_num, by rw [HS.out, ← HR.out]; exact (HO.out.stored j _).1, hnx.setCell (Nat.le_refl _) _⟩
    | zero =>
      obtain rfl : k = n := by omega
      have HX : Hid (xs.take k = xs) := by show _ = _; exact List.take_of_length_le (by rw [HN.out]; exact Nat.le_refl _)
      go_wp2
      (try rw [Exit.noGoto_ret])
      go_ret
      exact ⟨rfl, by have := HO.out; rw [HX.out] at this; exact this, hnx⟩
end Go.Proofs.YtnebmbabfghlaaaDoor
