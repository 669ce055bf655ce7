/- Contracts of tell: the places that the words of More's block tell. -/
import Derived.Test.YtdjnkibnnjobpaaBdA
namespace Go.Proofs.Ytdjnkibnnjobpaa
open Go.RowKit Go.Maps Go.ChangeMaps

/-- The map with the first k of More's words told. -/
def tellTo (f h : Nat → Int) (k : Nat) : Nat → Int := fun i => if 5 ≤ i ∧ i < 5 + k then h (i - 5) - 1 else f i
theorem tellTo_zero (f h : Nat → Int) : tellTo f h 0 = f := by
  funext i
  unfold tellTo
  rw [if_neg (by omega)]
theorem tellTo_succ (f h : Nat → Int) (k : Nat) : updN (tellTo f h k) (5 + k) (h k - 1) = tellTo f h (k + 1) := by
  funext i
  unfold updN tellTo
  by_cases e : i = 5 + k
  · subst e
    rw [if_pos rfl, if_pos (by omega)]
    congr 2
    omega
  · rw [if_neg e]
    by_cases e2 : 5 ≤ i ∧ i < 5 + k
    · rw [if_pos e2, if_pos (by omega)]
    · rw [if_neg e2, if_neg (by omega)]
/-- Words lie in a block from its first cell on. -/
def WAt (w : World) (b n : Nat) (h : Nat → Int) : Prop := b < w.heap.size ∧ ∀ i, i < n → w.cell? ⟨b, i, none⟩ = some (.int .u64 (h i))
theorem WAt.only {w w' : World} {b n : Nat} {h : Nat → Int} {X : List Nat} (hw : WAt w b n h) (ho : Only X w w') (hX : b ∉ X) : WAt w' b n h :=
  ⟨by have := hw.1; have := ho.size; omega, fun i hi => by rw [World.cell?_of_block (w := w) (ho.block b hw.1 hX)]; exact hw.2 i hi⟩
theorem WAt.later {w w' : World} {b n : Nat} {h : Nat → Int} (hw : WAt w b n h) (hb : Below w.heap.size w w') : WAt w' b n h :=
  hw.only (X := []) (Only.of_below hb) (by simp)
theorem wat_of_row {w : World} {base b c n : Nat} {h : Nat → Int} (hr : w.ownsRow base 23 1 (.slice (some ⟨b, 0, none⟩) n c) n ((List.range n).map fun (i : Nat) => Value.int .u64 (h i))) (hn : 0 < n) : WAt w b n h := by
  have h' := hr
  rcases hr.2 with ⟨e, e0⟩ | ⟨g, cap, cur, e, _, hg, _⟩
  · omega
  · cases e
    refine ⟨(Array.getElem?_eq_some_iff.1 hg).1, fun i hi => ?_⟩
    rw [h'.cellAt i (by omega)]
    simp [hi]

set_option maxHeartbeats 2000000 in
theorem tell_any (b g : Nat) (f h : Nat → Int) (w : World) (hg : IRow w g 21 f) (hc : WAt w b 16 h) (hbg : b ≠ g) (hw : ∀ i, i < 16 → 0 ≤ h i ∧ h i ≤ 18446744073709551615) (B : Bool)
    (hB : B = true ↔ (∀ i, i < 16 → h i ≤ 96) ∧ ∃ i, i < 16 ∧ h i ≠ 0) :
    Calls Try.prog 31 #[.slice (some ⟨b, 0, none⟩) 16 16, .slice (some ⟨g, 5, none⟩) 16 16] w fun e w' => e = .returned (.bool B) ∧ (B = true → IRow w' g 21 (tellTo f h 16)) ∧ Only [g] w w' := by
  have HG : Hid (IRow w g 21 f) := hg
  have HC : Hid (WAt w b 16 h) := hc
  have HN : Hid (b ∉ [g]) := by show b ∉ [g]; simp [hbg]
  obtain ⟨q, hq, HL, HQ⟩ : ∃ q : Nat, q ≤ 16 ∧ Hid (∀ j, j < q → 0 ≤ h j ∧ h j ≤ 96) ∧ Hid (q < 16 → 96 < h q ∧ h q ≤ 18446744073709551615) := by
    rcases first_or (fun i => decide (96 < h i)) 0 16 with ⟨q, _, hq, hp, hl⟩ | hl
    · exact ⟨q, by omega, fun j hj => ⟨(hw j (by omega)).1, by have := hl j (by omega) hj; simp at this; exact this⟩, fun _ => ⟨by simpa using hp, (hw q (by omega)).2⟩⟩
    · exact ⟨16, by omega, fun j hj => ⟨(hw j (by omega)).1, by have := hl j (by omega) (by omega); simp at this; exact this⟩, fun hh => absurd hh (Nat.lt_irrefl _)⟩
  have HB : Hid (q < 16 → B = false) := fun hq2 => by
    rw [Bool.eq_false_iff]
    intro hb
    have := (hB.1 hb).1 q hq2
    have := (HQ.out hq2).1
    omega
  have HB2 : Hid (q = 16 → B = !allH (fun i => h i - 1) 16) := fun hq2 => by
    subst hq2
    rw [Bool.eq_iff_iff, hB, Bool.not_eq_true', Bool.eq_false_iff]
    constructor
    · rintro ⟨_, i, hi, hne⟩ ha
      have := (allH_iff _ _).1 ha i hi
      omega
    · intro ha
      refine ⟨fun i hi => (HL.out i hi).2, ?_⟩
      rcases allH_first (fun i => h i - 1) 16 with e | ⟨_, i, hi, hne, _⟩
      · exact absurd e ha
      · exact ⟨i, hi, fun e => hne (by rw [e]; rfl)⟩
  clear hg hc hbg hB hw
  go_enter Try.func31, Try.ntmps31
  go_wp2
  go_loopw [5, 6, 9] (fun _ _ i wr => ∃ k : Nat, k ≤ q ∧ i = .int .i64 k ∧ Hid (IRow wr g 21 (tellTo f h k)) ∧ Hid (Only [g] w wr)) (fun _ _ i _ => 16 - (intOf i).toNat)
  case atStart => exact ⟨0, Nat.zero_le _, rfl, by show IRow _ _ _ _; rw [tellTo_zero]; exact HG.out, Only.refl _ _⟩
  case round =>
    obtain ⟨k, hk, rfl, HR, HO⟩ := hrel
    by_cases hlt : k < 16
    · have x1 := (HC.out.only HO.out HN.out).2 k hlt
      have x2 := HR.out.cell (5 + k) (by omega)
      have x3 := HR.out.frozen (5 + k)
      have hb : (k : Int) < 16 := by omega
      by_cases hkq : k < q
      · obtain ⟨y1, y2⟩ := HL.out k hkq
        have HS : Hid (updN (tellTo f h k) (5 + k) (h k - 1) = tellTo f h (k + 1)) := tellTo_succ f h k
        obtain ⟨X, hX⟩ : ∃ X, h k = X := ⟨_, rfl⟩
        obtain ⟨Y, hY⟩ : ∃ Y, tellTo f h k (5 + k) = Y := ⟨_, rfl⟩
        rw [hX] at x1 y1 y2 HS
        rw [hY] at x2
        clear hX hY
        have z1 : ¬ (96 : Int) < X := by omega
        go_wp2
        go_roundw
        case rel => exact ⟨k + 1, by omega, by go_num, by show IRow _ _ _ _; rw [← HS.out]; exact HR.out.set _ _, HO.out.setCell (p := ⟨g, 5 + k, none⟩) (by simp) _⟩
        case measure => simp [intOf]; omega
      · obtain rfl : k = q := by omega
        obtain ⟨y1, y2⟩ := HQ.out hlt
        have hBf := HB.out hlt
        subst hBf
        obtain ⟨X, hX⟩ : ∃ X, h k = X := ⟨_, rfl⟩
        rw [hX] at x1 y1 y2
        clear hX
        go_wp2
        go_ret
        exact ⟨rfl, HO.out⟩
    · obtain ⟨Q, hQ⟩ : ∃ Q : Nat, Q = 16 := ⟨_, rfl⟩
      have hk16 : k = 16 := by omega
      have hb : ¬ (k : Int) < 16 := by omega
      have hBt := HB2.out (by omega)
      have HR16 : Hid (IRow wr g 21 (tellTo f h 16)) := by rw [hk16] at HR; exact HR
      have HA : Hid (Calls Try.prog 46 #[.slice (some ⟨g, 5, none⟩) 16 16] wr fun e w' => e = .returned (.bool (allH (fun i => h i - 1) 16)) ∧ w' = wr) := by
        have h1 := allHoles_any (some ⟨g, 5, none⟩) 16 16 (fun i => tellTo f h 16 (5 + i)) wr (HR16.out.ints 5 16 (by omega)) (by omega)
        have e : allH (fun i => tellTo f h 16 (5 + i)) 16 = allH (fun i => h i - 1) 16 := allH_congr fun i hi => by
          unfold tellTo
          rw [if_pos (by omega)]
          congr 2
          omega
        rw [e] at h1
        exact h1
      obtain ⟨A, hA⟩ : ∃ A, allH (fun i => h i - 1) 16 = A := ⟨_, rfl⟩
      rw [hA] at HA hBt
      subst hBt
      clear hA hk16 hQ
      go_wp2_with (first
        | (go_at_call 46; refine Calls.mono (Hid.out HA) ?_; rintro e w' ⟨rfl, hw⟩; obtain rfl := hw.symm)
        | go_in)
      go_ret
      exact ⟨rfl, fun _ => HR16.out, HO.out⟩

end Go.Proofs.Ytdjnkibnnjobpaa
