/- Contracts of Head, of slices.Equal at words, and of Right (the program's and the document's), for every slice of words; nothing that was there changes. -/
import Derived.Test.YtfalchacdebdpaaPlanA
import Derived.Deep.RegionWith
import Derived.Deep.QuietTactic
import Derived.BigQuiet
namespace Go.Proofs.Ytfalchacdebdpaa
open Go.RowKit

/-- The head's words. -/
def headN (i : Nat) : Int := if i = 0 then 7021221306412823411 else if i = 1 then 2824 else 0
def headRow : Array Value := #[.int .u64 7021221306412823411, .int .u64 2824, .int .u64 0, .int .u64 0, .int .u64 0, .int .u64 0, .int .u64 0, .int .u64 0]

theorem head_any (w : World) :
    Calls Try.prog 39 #[] w fun e w' => e = .returned (.slice (some ⟨w.heap.size, 0, none⟩) 8 8) ∧ w' = w.alloc (.cells headRow 22) := by
  have hmk : ∀ w : World, (Instr.makeSlice 37 (.int .i64 8) (.int .i64 8)).run Try.prog w = .ok (.slice (some ⟨w.heap.size, 0, none⟩) 8 8) (w.alloc (.cells #[.int .u64 0, .int .u64 0, .int .u64 0, .int .u64 0, .int .u64 0, .int .u64 0, .int .u64 0, .int .u64 0] 22)) := fun _ => by kernel_rfl
  go_enter Try.func39, Try.ntmps39
  go_wp2
  go_ret
  exact ⟨rfl, rfl⟩

theorem head_cells (w : World) (i : Nat) (h : i < 8) : (w.alloc (.cells headRow 22)).cell? ⟨w.heap.size, i, none⟩ = some (.int .u64 (headN i)) := by
  rw [World.cell?_alloc_at _ _ _ _ rfl]
  match i, h with
  | 0, _ => rfl
  | 1, _ => rfl
  | 2, _ => rfl
  | 3, _ => rfl
  | 4, _ => rfl
  | 5, _ => rfl
  | 6, _ => rfl
  | 7, _ => rfl
theorem head_own (w : World) :
    Calls Try.prog 39 #[] w fun e w' => e = .returned (.slice (some ⟨w.heap.size, 0, none⟩) 8 8) ∧ Hid (∀ i, i < 8 → w'.cell? ⟨w.heap.size, i, none⟩ = some (.int .u64 (headN i))) ∧ Below w.heap.size w w' ∧ w.heap.size < w'.heap.size := by
  refine (head_any w).mono ?_
  rintro e w' ⟨rfl, rfl⟩
  exact ⟨rfl, fun i h => head_cells w i h, (Below.refl _ _).alloc (Nat.le_refl _) _, by rw [World.size_alloc]; omega⟩

/-- The first n words are alike. -/
def eqB (n : Nat) (f g : Nat → Int) : Bool := decide (∀ i, i < n → f i = g i)

set_option maxHeartbeats 1000000 in
theorem equal_some (b1 o1 c1 b2 o2 c2 n : Nat) (f g : Nat → Int) (w : World) (hn : n ≤ 9223372036854775807)
    (h1 : ∀ i, i < n → w.cell? ⟨b1, o1 + i, none⟩ = some (.int .u64 (f i))) (h2 : ∀ i, i < n → w.cell? ⟨b2, o2 + i, none⟩ = some (.int .u64 (g i))) :
    Calls Try.prog 69 #[.slice (some ⟨b1, o1, none⟩) n c1, .slice (some ⟨b2, o2, none⟩) n c2] w fun e w' => e = .returned (.bool (eqB n f g)) ∧ ∃ m, w' = w.drewN m := by
  have H1 : Hid (∀ i, i < n → w.cell? ⟨b1, o1 + i, none⟩ = some (.int .u64 (f i))) := h1
  have H2 : Hid (∀ i, i < n → w.cell? ⟨b2, o2 + i, none⟩ = some (.int .u64 (g i))) := h2
  clear h1 h2
  obtain ⟨res, hres⟩ : ∃ r, eqB n f g = r := ⟨_, rfl⟩
  have HR : Hid (eqB n f g = res) := hres
  rw [hres]
  clear hres
  go_enter Try.func69, Try.ntmps69
  go_wp2
  go_loopw [5, 13] (fun _ i wr => ∃ k m : Nat, k ≤ n ∧ i = .int .i64 k ∧ wr = w.drewN m ∧ Hid (∀ j, j < k → f j = g j)) (fun _ i _ => n - (intOf i).toNat)
  case atStart => exact ⟨0, 0, Nat.zero_le _, rfl, rfl, fun j hj => absurd hj (Nat.not_lt_zero j)⟩
  case round =>
    obtain ⟨k, m, hk, rfl, rfl, H⟩ := hrel
    by_cases hlt : k < n
    · have x1 := H1.out k hlt
      have x2 := H2.out k hlt
      have hb : (k : Int) < (n : Int) := by omega
      obtain ⟨X, hX⟩ : ∃ X, f k = X := ⟨_, rfl⟩
      obtain ⟨Y, hY⟩ : ∃ Y, g k = Y := ⟨_, rfl⟩
      rw [hX] at x1
      rw [hY] at x2
      have KX : Hid (f k = X) := hX
      have KY : Hid (g k = Y) := hY
      clear hX hY
      by_cases he : X = Y
      · subst he
        go_wp2
        go_quiet (fail)
        go_wp2
        go_roundw
        case rel => exact ⟨k + 1, _, by omega, by go_num, rfl, fun j hj => by
          by_cases e : j = k
          · subst e; rw [KX.out, KY.out]
          · exact H.out j (by omega)⟩
        case measure => simp [intOf]; omega
      · have e2 : (X == Y) = false := by simpa using he
        have e3 : (X != Y) = true := by simpa using he
        have HE : Hid (¬ X = Y) := he
        clear he
        go_wp2
        go_quiet (fail)
        go_wp2
        go_ret
        refine ⟨ret_bool ?_, _, World.drewN_drewN ..⟩
        rw [← HR.out]
        symm
        unfold eqB
        rw [decide_eq_false_iff_not]
        intro e
        apply HE.out
        rw [← KX.out, ← KY.out, e k hlt]
    · go_wp2
      go_ret
      refine ⟨ret_bool ?_, m, rfl⟩
      rw [← HR.out]
      symm
      unfold eqB
      rw [decide_eq_true_eq]
      exact fun j hj => H.out j (by omega)

/-- As many words as the plan's, and its head first. -/
def rightB (n : Nat) (f : Nat → Int) : Bool := decide (n = 2824) && eqB 8 f headN

set_option maxHeartbeats 1000000 in
theorem right_len (a : Option Addr) (n c : Nat) (w : World) (h : ¬ n = 2824) :
    Calls Try.prog 56 #[.slice a n c] w fun e w' => e = .returned (.bool false) ∧ Below w.heap.size w w' := by
  have h1 : ((n : Int) == 2824) = false := by simp; omega
  have h2 : ¬ (n : Int) = 2824 := by omega
  clear h
  go_enter Try.func56, Try.ntmps56
  go_wp2
  go_quiet (fail)
  go_wp2
  go_ret
  exact ⟨rfl, below_drewN (Below.refl _ _) _⟩

set_option maxHeartbeats 1000000 in
theorem right_yes (b o c : Nat) (f : Nat → Int) (w : World) (hb : b < w.heap.size) (hc : 2824 ≤ c)
    (h1 : ∀ i, i < 8 → w.cell? ⟨b, o + i, none⟩ = some (.int .u64 (f i))) :
    Calls Try.prog 56 #[.slice (some ⟨b, o, none⟩) 2824 c] w fun e w' => e = .returned (.bool (eqB 8 f headN)) ∧ Below w.heap.size w w' := by
  have H1 : Hid (∀ i, i < 8 → w.cell? ⟨b, o + i, none⟩ = some (.int .u64 (f i))) := h1
  clear h1
  obtain ⟨res, hres⟩ : ∃ r, eqB 8 f headN = r := ⟨_, rfl⟩
  have HR : Hid (eqB 8 f headN = res) := hres
  rw [hres]
  clear hres
  go_enter Try.func56, Try.ntmps56
  go_wp2
  go_region_with (first | (go_at_call 39; refine (head_own _).mono ?_; rintro e w1 ⟨rfl, hcells, hbel, hsz⟩) | (go_at_call 69; refine (equal_some b o _ _ 0 _ 8 f headN _ (by omega) ?h1 ?h2).mono ?_; (case h1 => exact fun i hi => (hbel.cell (p := ⟨b, o + i, none⟩) hb).trans (H1.out i hi)); (case h2 => exact fun i hi => (by rw [Nat.zero_add]; exact hcells.out i hi)); rintro e w2 ⟨rfl, m, rfl⟩))
  all_goals
    go_wp2
    go_ret
    exact ⟨ret_bool HR.out, below_drewN (((Below.refl _ w).drew).trans hbel) _⟩

/-- Words at a slice's address. -/
def UAt (w : World) (a : Option Addr) (n : Nat) (f : Nat → Int) : Prop := n = 0 ∨ ∃ b o, a = some ⟨b, o, none⟩ ∧ b < w.heap.size ∧ ∀ i, i < n → w.cell? ⟨b, o + i, none⟩ = some (.int .u64 (f i))
theorem UAt.later {w w' : World} {a : Option Addr} {n : Nat} {f : Nat → Int} (h : UAt w a n f) {B : Nat} (hB : w.heap.size ≤ B) (hb : Below B w w') : UAt w' a n f := by
  rcases h with h | ⟨b, o, e, hlt, hc⟩
  · exact .inl h
  · exact .inr ⟨b, o, e, by have := hb.size; omega, fun i hi => (hb.cell (p := ⟨b, o + i, none⟩) (by show b < B; omega)).trans (hc i hi)⟩

theorem right_any (a : Option Addr) (n c : Nat) (f : Nat → Int) (w : World) (h : UAt w a n f) (hc : n ≤ c) :
    Calls Try.prog 56 #[.slice a n c] w fun e w' => e = .returned (.bool (rightB n f)) ∧ Below w.heap.size w w' := by
  by_cases hn : n = 2824
  · subst hn
    obtain ⟨b, o, rfl, hb, hcell⟩ := h.resolve_left (by omega)
    have e : rightB 2824 f = eqB 8 f headN := by simp [rightB]
    rw [e]
    exact right_yes b o c f w hb hc fun i hi => hcell i (by omega)
  · have e : rightB n f = false := by simp [rightB, hn]
    rw [e]
    exact right_len a n c w hn

set_option maxHeartbeats 1000000 in
theorem refRight_len (a : Option Addr) (n c : Nat) (w : World) (h : ¬ n = 2824) :
    Calls Try.prog 62 #[.slice a n c] w fun e w' => e = .returned (.bool false) ∧ w' = w := by
  have h1 : ((n : Int) == 2824) = false := by simp; omega
  have h2 : ¬ (n : Int) = 2824 := by omega
  have h3 : ((n : Int) != 2824) = true := by simp; omega
  clear h
  go_enter Try.func62, Try.ntmps62
  go_wp2
  go_ret
  exact ⟨rfl, rfl⟩

set_option maxHeartbeats 1000000 in
theorem refRight_yes (b o c : Nat) (f : Nat → Int) (w : World)
    (h1 : ∀ i, i < 8 → w.cell? ⟨b, o + i, none⟩ = some (.int .u64 (f i))) :
    Calls Try.prog 62 #[.slice (some ⟨b, o, none⟩) 2824 c] w fun e w' => e = .returned (.bool (eqB 8 f headN)) ∧ w' = w := by
  have H1 : Hid (∀ i, i < 8 → w.cell? ⟨b, o + i, none⟩ = some (.int .u64 (f i))) := h1
  have c0 : w.cell? ⟨b, o, none⟩ = some (.int .u64 (f 0)) := h1 0 (by omega)
  have c1 : w.cell? ⟨b, o + 1, none⟩ = some (.int .u64 (f 1)) := h1 1 (by omega)
  clear h1
  obtain ⟨res, hres⟩ : ∃ r, eqB 8 f headN = r := ⟨_, rfl⟩
  have HR : Hid (eqB 8 f headN = res) := hres
  rw [hres]
  clear hres
  obtain ⟨X, hX⟩ : ∃ X, f 0 = X := ⟨_, rfl⟩
  obtain ⟨Y, hY⟩ : ∃ Y, f 1 = Y := ⟨_, rfl⟩
  rw [hX] at c0
  rw [hY] at c1
  have KX : Hid (f 0 = X) := hX
  have KY : Hid (f 1 = Y) := hY
  clear hX hY
  by_cases e0 : X = 7021221306412823411
  · by_cases e1 : Y = 2824
    · subst e0 e1
      go_enter Try.func62, Try.ntmps62
      go_wp2
      go_loop [3] (fun i => ∃ k : Nat, 2 ≤ k ∧ k ≤ 8 ∧ i = .int .i64 k ∧ Hid (∀ j, 2 ≤ j → j < k → f j = 0)) (fun i => 8 - (intOf i).toNat)
      case atStart => exact ⟨2, Nat.le_refl _, by omega, rfl, fun j hj hj' => absurd hj' (by omega)⟩
      case round =>
        obtain ⟨k, hk2, hk, rfl, H⟩ := hrel
        by_cases hlt : k < 8
        · have x1 := H1.out k hlt
          have hb : (k : Int) < 8 := by omega
          have hb2 : (k : Int) < 2824 := by omega
          obtain ⟨Z, hZ⟩ : ∃ Z, f k = Z := ⟨_, rfl⟩
          rw [hZ] at x1
          have KZ : Hid (f k = Z) := hZ
          clear hZ
          by_cases he : Z = 0
          · subst he
            go_wp2
            go_round
            case rel => exact ⟨k + 1, by omega, by omega, by go_num, fun j hj hj' => by
              by_cases e : j = k
              · subst e; exact KZ.out
              · exact H.out j hj (by omega)⟩
            case measure => simp [intOf]; omega
          · have g1 : (Z == 0) = false := by simpa using he
            have g2 : (Z != 0) = true := by simpa using he
            have HE : Hid (¬ Z = 0) := he
            clear he
            go_wp2
            go_ret
            refine ⟨ret_bool ?_, rfl⟩
            rw [← HR.out]
            symm
            unfold eqB
            rw [decide_eq_false_iff_not]
            intro e
            apply HE.out
            rw [← KZ.out, e k hlt]
            unfold headN
            rw [if_neg (by omega), if_neg (by omega)]
        · go_wp2
          go_ret
          refine ⟨ret_bool ?_, rfl⟩
          rw [← HR.out]
          symm
          unfold eqB
          rw [decide_eq_true_eq]
          intro j hj
          unfold headN
          by_cases j0 : j = 0
          · subst j0; rw [if_pos rfl]; exact KX.out
          · rw [if_neg j0]
            by_cases j1 : j = 1
            · subst j1; rw [if_pos rfl]; exact KY.out
            · rw [if_neg j1]; exact H.out j (by omega) (by omega)
    · subst e0
      have g1 : (Y == 2824) = false := by simpa using e1
      have g2 : (Y != 2824) = true := by simpa using e1
      have HE : Hid (¬ Y = 2824) := e1
      clear e1
      go_enter Try.func62, Try.ntmps62
      go_wp2
      go_ret
      refine ⟨ret_bool ?_, rfl⟩
      rw [← HR.out]
      symm
      unfold eqB
      rw [decide_eq_false_iff_not]
      intro e
      apply HE.out
      rw [← KY.out, e 1 (by omega)]
      rfl
  · have g1 : (X == 7021221306412823411) = false := by simpa using e0
    have g2 : (X != 7021221306412823411) = true := by simpa using e0
    have HE : Hid (¬ X = 7021221306412823411) := e0
    clear e0
    go_enter Try.func62, Try.ntmps62
    go_wp2
    go_ret
    refine ⟨ret_bool ?_, rfl⟩
    rw [← HR.out]
    symm
    unfold eqB
    rw [decide_eq_false_iff_not]
    intro e
    apply HE.out
    rw [← KX.out, e 0 (by omega)]
    rfl

theorem refRight_any (a : Option Addr) (n c : Nat) (f : Nat → Int) (w : World) (h : UAt w a n f) :
    Calls Try.prog 62 #[.slice a n c] w fun e w' => e = .returned (.bool (rightB n f)) ∧ w' = w := by
  by_cases hn : n = 2824
  · subst hn
    obtain ⟨b, o, rfl, hb, hcell⟩ := h.resolve_left (by omega)
    have e : rightB 2824 f = eqB 8 f headN := by simp [rightB]
    rw [e]
    exact refRight_yes b o c f w fun i hi => hcell i (by omega)
  · have e : rightB n f = false := by simp [rightB, hn]
    rw [e]
    exact refRight_len a n c w hn

end Go.Proofs.Ytfalchacdebdpaa
