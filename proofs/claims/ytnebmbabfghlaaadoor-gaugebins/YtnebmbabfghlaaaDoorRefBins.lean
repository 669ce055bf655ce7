/- Contracts of the document's Bins and of SameInts. -/
import Derived.Test.YtnebmbabfghlaaaDoorBins
namespace Go.Proofs.YtnebmbabfghlaaaDoor
open Go.RowKit

set_option maxHeartbeats 2000000 in
theorem refBins_any (a b : Option Addr) (capa capb : Nat) (xs es : List Nat) (w : World) (ha : FAt w a xs) (hb : FAt w b es) :
    Calls Tryd.prog 34 #[.slice a xs.length capa, .slice b es.length capb] w fun e w' => e = .returned (.slice (some ⟨w.heap.size, 0, none⟩) (es.length + 1) (es.length + 1)) ∧
      w'.ownsRow w.heap.size 3 1 (.slice (some ⟨w.heap.size, 0, none⟩) (es.length + 1) (es.length + 1)) (es.length + 1) (iRow (binsN es xs)) ∧ Below w.heap.size w w' := by
  obtain ⟨i0, hi, hz0, hz1, hz2⟩ := info_parts info3
  have HA : Hid (FAt w a xs) := ha
  have HB : Hid (FAt w b es) := hb
  have hla := ha.1
  have hlb := hb.1
  clear ha hb
  generalize hn : xs.length = n at *
  generalize hm : es.length = m at *
  have HN : Hid (xs.length = n) := hn
  have HM : Hid (es.length = m) := hm
  clear hn hm
  go_enter Tryd.func34, Tryd.ntmps34
  go_wp2_with (at_make; refine wpList_make_full _ rfl _ _ 40 rfl w.heap.size 3 i0 (.int .i64 0) 1 Tryd.underlying40 hi hz0 hz1 _ _ _ _ (m + 1) rfl rfl (by go_num) (by go_num) ?b2 ?b3 (Nat.le_refl _) ?_)
  case b2 => rw [hz2]; omega
  case b3 => unfold maxLen; omega
  intro w0 hown0 hgrow0
  have hnx0 : Below w.heap.size w w0 := (Below.refl _ _).grown hgrow0 (Nat.le_refl _) (fun k h => by cases h)
  have HO0 : Hid (w0.ownsRow w.heap.size 3 1 (.slice (some ⟨w.heap.size, 0, none⟩) (m + 1) (m + 1)) (m + 1) (iRow (binsN es (xs.take 0)))) := by
    have e : (madeCells #[Value.int .i64 0] (m + 1)).toList = iRow (binsN es (xs.take 0)) := by rw [made_ints, ← HM.out]; rfl
    have h2 := hown0
    rw [e] at h2
    exact h2
  clear hown0 hgrow0
  go_wp2
  go_loopg [6, 7] n (fun g i _ wr => ∃ k : Nat, k + g = n ∧ i = .int .i64 k ∧ wr.ownsRow w.heap.size 3 1 (.slice (some ⟨w.heap.size, 0, none⟩) (m + 1) (m + 1)) (m + 1) (iRow (binsN es (xs.take k))) ∧ Below w.heap.size w wr)
  case atStart => exact ⟨0, by omega, rfl, HO0.out, hnx0⟩
  case round =>
    obtain ⟨k, hk, rfl, hown, hnx⟩ := hrel
    have HO : Hid (wr.ownsRow w.heap.size 3 1 (.slice (some ⟨w.heap.size, 0, none⟩) (m + 1) (m + 1)) (m + 1) (iRow (binsN es (xs.take k)))) := hown
    clear hown HO0
    cases gk with
    | succ g =>
      have hlt : k < n := by omega
      have hlti : (k : Int) < (n : Int) := by omega
      obtain ⟨ba, oa, rfl, hba, hca⟩ := HA.out.at_ (by rw [HN.out]; omega)
      have ck : wr.cell? ⟨ba, oa + k, none⟩ = some (.float .f64 (nth xs k)) := (hnx.cell (p := ⟨ba, oa + k, none⟩) hba).trans (hca k (by rw [HN.out]; exact hlt))
      have HCA : Hid (w.cell? ⟨ba, oa + k, none⟩ = some (.float .f64 (nth xs k))) := hca k (by rw [HN.out]; exact hlt)
      clear hca
      have HS : Hid (binsN es (xs.take (k + 1)) = binStep es (binsN es (xs.take k)) (nth xs k)) := bins_step es xs k (by rw [HN.out]; exact hlt)
      have HL : Hid ((binsN es (xs.take k)).length = m + 1) := by rw [bins_len, HM.out]; rfl
      have HLE : Hid (∀ j, (binsN es (xs.take k)).getD j 0 ≤ 100) := fun j => by
        have := bins_le es (xs.take k) j
        rw [List.length_take] at this; omega
      go_wp2
      go_loopg [7] m (fun g2 i wy => ∃ j : Nat, j + g2 = m ∧ i = .int .i64 j ∧ Aside (wy.ownsRow w.heap.size 3 1 (.slice (some ⟨w.heap.size, 0, none⟩) (m + 1) (m + 1)) (m + 1) (iRow (binsN es (xs.take k)))) ∧ Below w.heap.size w wy ∧ Aside (∀ i, i < j → ah (nth es i) (nth xs k) = true))
      case atStart => exact ⟨0, by omega, rfl, HO.out, hnx, fun i hi => by omega⟩
      case round =>
        clear HO hnx ck
        obtain ⟨j, hj, rfl, HO', hnx, hjj⟩ := hrel
        have HO : Hid (wr.ownsRow w.heap.size 3 1 (.slice (some ⟨w.heap.size, 0, none⟩) (m + 1) (m + 1)) (m + 1) (iRow (binsN es (xs.take k)))) := HO'.out
        clear HO'
        have ck : wr.cell? ⟨ba, oa + k, none⟩ = some (.float .f64 (nth xs k)) := (hnx.cell (p := ⟨ba, oa + k, none⟩) hba).trans (HCA.out)
        cases gk with
        | succ g2 =>
          have hltj : j < m := by omega
          have hltji : (j : Int) < (m : Int) := by omega
          have hdec : decide ((j : Int) < (m : Int)) = true := by simpa using hltji
          obtain ⟨be, oe, rfl, hbe, hce⟩ := HB.out.at_ (by rw [HM.out]; omega)
          have cj : wr.cell? ⟨be, oe + j, none⟩ = some (.float .f64 (nth es j)) := (hnx.cell (p := ⟨be, oe + j, none⟩) hbe).trans (hce j (by rw [HM.out]; exact hltj))
          clear hce
          cases hah : ah (nth es j) (nth xs k) with
          | true =>
            go_wp2
            go_quiet ((go_at_call 45; exact Calls.quiet_of_same (refAhead_any _ _ _)))
            go_wp2
            go_roundg g2
            case measure => omega
            case rel => exact ⟨j + 1, by omega, by go_num, HO.out, below_drewN hnx _, fun i hi => by
              rcases Nat.lt_or_ge i j with h | h
              · exact hjj.out i h
              · have e : i = j := by omega
                rw [e]; exact hah⟩
          | false =>
            have HE : Hid (edgeN es (nth xs k) = j) := edge_at es _ j (by rw [HM.out]; exact hltj) hjj.out hah
            obtain ⟨q, hq⟩ : ∃ q, q = (binsN es (xs.take k)).getD j 0 := ⟨_, rfl⟩
            have hq100 : q ≤ 100 := by rw [hq]; exact HLE.out j
            have cq : wr.cell? ⟨w.heap.size, j, none⟩ = some (.int .i64 (q : Int)) := by
              rw [HO.out.cellAt j (by omega), iRow_at _ _ (by rw [HL.out]; omega), hq]
            have fq : wr.frozen? ⟨w.heap.size, j, none⟩ = false := HO.out.frozenAt _
            have HR : Hid ((iRow (binsN es (xs.take k))).set j (.int .i64 ((q : Int) + 1)) = iRow (binStep es (binsN es (xs.take k)) (nth xs k))) := iRow_step es _ _ j q HE.out hq.symm
            have hjm : (j : Int) < (m : Int) + 1 := by omega
            clear hq
            go_wp2
            go_quiet ((go_at_call 45; exact Calls.quiet_of_same (refAhead_any _ _ _)))
            go_wp2
            go_roundg g
            case measure => omega
            case rel => exact ⟨k + 1, by omega, by go_num, by rw [HS.out, ← HR.out]; exact (World.ownsRow.stored (w := wr.drewN _) HO.out j _).1, (below_drewN hnx _).setCell (Nat.le_refl _) _⟩
        | zero =>
          obtain rfl : j = m := by omega
          have HE : Hid (edgeN es (nth xs k) = j) := by
            have := edge_end es (nth xs k) (fun i hi => hjj.out i (by rw [HM.out] at hi; exact hi))
            rw [HM.out] at this; exact this
          obtain ⟨q, hq⟩ : ∃ q, q = (binsN es (xs.take k)).getD j 0 := ⟨_, rfl⟩
          have hq100 : q ≤ 100 := by rw [hq]; exact HLE.out j
          have cq : wr.cell? ⟨w.heap.size, j, none⟩ = some (.int .i64 (q : Int)) := by
            rw [HO.out.cellAt j (by omega), iRow_at _ _ (by rw [HL.out]; omega), hq]
          have fq : wr.frozen? ⟨w.heap.size, j, none⟩ = false := HO.out.frozenAt _
          have HR : Hid ((iRow (binsN es (xs.take k))).set j (.int .i64 ((q : Int) + 1)) = iRow (binStep es (binsN es (xs.take k)) (nth xs k))) := iRow_step es _ _ j q HE.out hq.symm
          clear hq
          go_wp2
          go_quiet ((go_at_call 45; exact Calls.quiet_of_same (refAhead_any _ _ _)))
          go_wp2
          go_roundg g
          case measure => omega
          case rel => exact ⟨k + 1, by omega, by go_num, by rw [HS.out, ← HR.out]; exact (World.ownsRow.stored (w := wr.drewN _) HO.out j _).1, (below_drewN hnx _).setCell (Nat.le_refl _) _⟩
    | zero =>
      obtain rfl : k = n := by omega
      have HX : Hid (xs.take k = xs) := by show _ = _; exact List.take_of_length_le (by rw [HN.out]; exact Nat.le_refl _)
      go_wp2
      go_ret
      exact ⟨rfl, by have := HO.out; rw [HX.out] at this; exact this, hnx⟩

/-- Two rows of the same numbers. -/
theorem sameInts_yes (b1 b2 o1 o2 n : Nat) (bs : List Nat) (w : World) (hn : n ≤ 1000)
    (h1 : ∀ j, j < n → w.cell? ⟨b1, o1 + j, none⟩ = some (.int .i64 ((bs.getD j 0 : Nat) : Int))) (h2 : ∀ j, j < n → w.cell? ⟨b2, o2 + j, none⟩ = some (.int .i64 ((bs.getD j 0 : Nat) : Int))) :
    Calls Tryd.prog 35 #[.slice (some ⟨b1, o1, none⟩) n n, .slice (some ⟨b2, o2, none⟩) n n] w fun e w' => e = .returned (.bool true) ∧ ∃ m, w' = w.drewN m := by
  go_enter Tryd.func35, Tryd.ntmps35
  go_wp2
  go_loopw [5] (fun i wr => ∃ k m : Nat, k ≤ n ∧ i = .int .i64 k ∧ wr = w.drewN m) (fun i _ => n - (intOf i).toNat)
  case atStart => exact ⟨0, 0, Nat.zero_le _, rfl, rfl⟩
  case round =>
    obtain ⟨k, m, hk, rfl, rfl⟩ := hrel
    by_cases hlt : k < n
    · obtain ⟨v, hv⟩ : ∃ v : Nat, v = bs.getD k 0 := ⟨_, rfl⟩
      have x1 := h1 k hlt
      have x2 := h2 k hlt
      rw [← hv] at x1 x2
      have hb : (k : Int) < (n : Int) := by omega
      clear h1 h2 hv
      go_wp2
      go_quiet (fail)
      go_wp2
      go_roundw
      case rel => exact ⟨k + 1, _, by omega, by go_num, rfl⟩
      case measure => simp [intOf]; omega
    · go_wp2
      go_ret
      exact ⟨rfl, m, rfl⟩
end Go.Proofs.YtnebmbabfghlaaaDoor
