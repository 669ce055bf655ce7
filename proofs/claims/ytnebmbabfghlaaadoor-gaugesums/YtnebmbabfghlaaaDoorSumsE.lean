/- shortFloat's parts, named. -/
import Derived.Test.YtnebmbabfghlaaaDoorSumsD
namespace Go.Proofs.YtnebmbabfghlaaaDoor
open Go.RowKit

/-- uscale's answers, as one function. -/
theorem parts_usc : ∃ f : Int → Int → Int → Int → Int, Hid (∀ x hi lo s, U64 x → U64 hi → U64 lo → ∀ w b, Scal w b hi lo s → Calls Tryd.prog 83 #[.int .u64 x, .pointer (some ⟨b, 0, none⟩)] w fun e w' => e = .returned (.int .u64 (f x hi lo s)) ∧ ∃ q, w' = w.drewN q) ∧ Hid (∀ x hi lo s, U64 (f x hi lo s)) := by
  have h : ∀ x hi lo s, ∃ r, (U64 x → U64 hi → U64 lo → ∀ w b, Scal w b hi lo s → Calls Tryd.prog 83 #[.int .u64 x, .pointer (some ⟨b, 0, none⟩)] w fun e w' => e = .returned (.int .u64 r) ∧ ∃ q, w' = w.drewN q) ∧ U64 r := fun x hi lo s => by
    by_cases hc : U64 x ∧ U64 hi ∧ U64 lo
    · obtain ⟨r, h1, h2⟩ := uscale_any x hi lo s hc.1 hc.2.1 hc.2.2
      exact ⟨r, fun _ _ _ => h1, h2⟩
    · exact ⟨0, fun a b c => absurd ⟨a, b, c⟩ hc, by decide, by decide⟩
  exact ⟨fun x hi lo s => (h x hi lo s).choose, fun x hi lo s => (h x hi lo s).choose_spec.1, fun x hi lo s => (h x hi lo s).choose_spec.2⟩
/-- nudge's. -/
theorem parts_nud : ∃ f : Int → Int → Int, Hid (∀ u d, U64 u → (-1 ≤ d ∧ d ≤ 1) → ∀ w, Calls Tryd.prog 84 #[.int .u64 u, .int .i64 d] w fun e w' => e = .returned (.int .u64 (f u d)) ∧ w' = w) ∧ Hid (∀ u d, U64 (f u d)) := by
  have h : ∀ u d, ∃ r, (U64 u → (-1 ≤ d ∧ d ≤ 1) → ∀ w, Calls Tryd.prog 84 #[.int .u64 u, .int .i64 d] w fun e w' => e = .returned (.int .u64 r) ∧ w' = w) ∧ U64 r := fun u d => by
    by_cases hc : U64 u ∧ (-1 ≤ d ∧ d ≤ 1)
    · obtain ⟨r, h1, h2⟩ := nudge_any u d hc.1 hc.2
      exact ⟨r, fun _ _ => h1, h2⟩
    · exact ⟨0, fun a b => absurd ⟨a, b⟩ hc, by decide, by decide⟩
  exact ⟨fun u d => (h u d).choose, fun u d => (h u d).choose_spec.1, fun u d => (h u d).choose_spec.2⟩
/-- ceil's. -/
theorem parts_cei : ∃ f : Int → Int, Hid (∀ u, U64 u → ∀ w, Calls Tryd.prog 85 #[.int .u64 u] w fun e w' => e = .returned (.int .u64 (f u)) ∧ w' = w) ∧ Hid (∀ u, U64 (f u)) := by
  have h : ∀ u, ∃ r, (U64 u → ∀ w, Calls Tryd.prog 85 #[.int .u64 u] w fun e w' => e = .returned (.int .u64 r) ∧ w' = w) ∧ U64 r := fun u => by
    by_cases hc : U64 u
    · obtain ⟨r, h1, h2⟩ := ceil_any u hc
      exact ⟨r, fun _ => h1, h2⟩
    · exact ⟨0, fun a => absurd a hc, by decide, by decide⟩
  exact ⟨fun u => (h u).choose, fun u => (h u).choose_spec.1, fun u => (h u).choose_spec.2⟩
/-- floor's. -/
theorem parts_flo : ∃ f : Int → Int, Hid (∀ u, U64 u → ∀ w, Calls Tryd.prog 86 #[.int .u64 u] w fun e w' => e = .returned (.int .u64 (f u)) ∧ w' = w) ∧ Hid (∀ u, U64 (f u)) := by
  have h : ∀ u, ∃ r, (U64 u → ∀ w, Calls Tryd.prog 86 #[.int .u64 u] w fun e w' => e = .returned (.int .u64 r) ∧ w' = w) ∧ U64 r := fun u => by
    by_cases hc : U64 u
    · obtain ⟨r, h1, h2⟩ := floor_any u hc
      exact ⟨r, fun _ => h1, h2⟩
    · exact ⟨0, fun a => absurd a hc, by decide, by decide⟩
  exact ⟨fun u => (h u).choose, fun u => (h u).choose_spec.1, fun u => (h u).choose_spec.2⟩
/-- round's. -/
theorem parts_rou : ∃ f : Int → Int, Hid (∀ u, U64 u → ∀ w, Calls Tryd.prog 87 #[.int .u64 u] w fun e w' => e = .returned (.int .u64 (f u)) ∧ w' = w) ∧ Hid (∀ u, U64 (f u)) := by
  have h : ∀ u, ∃ r, (U64 u → ∀ w, Calls Tryd.prog 87 #[.int .u64 u] w fun e w' => e = .returned (.int .u64 r) ∧ w' = w) ∧ U64 r := fun u => by
    by_cases hc : U64 u
    · obtain ⟨r, h1, h2⟩ := round_any u hc
      exact ⟨r, fun _ => h1, h2⟩
    · exact ⟨0, fun a => absurd a hc, by decide, by decide⟩
  exact ⟨fun u => (h u).choose, fun u => (h u).choose_spec.1, fun u => (h u).choose_spec.2⟩

theorem prescale_at (TH TL : Nat → Int) (w : World) (b j : Nat) (v0 v1 v2 : Value) (e p lp : Int) (hp : p = (j : Int) - 348) (hT : PTab w TH TL) (hj : j < 696) (hb : 3 < b) (he : -3000 ≤ e ∧ e ≤ 3000) (hlp : -3000 ≤ lp ∧ lp ≤ 3000)
    (c0 : w.cell? ⟨b, 0, none⟩ = some v0) (c1 : w.cell? ⟨b, 1, none⟩ = some v1) (c2 : w.cell? ⟨b, 2, none⟩ = some v2) (f0 : w.frozen? ⟨b, 0, none⟩ = false) (f1 : w.frozen? ⟨b, 1, none⟩ = false) (f2 : w.frozen? ⟨b, 2, none⟩ = false) :
    Calls Tryd.prog 81 #[.pointer (some ⟨b, 0, none⟩), .int .i64 e, .int .i64 p, .int .i64 lp] w fun en w' => en = .returned (.tuple #[]) ∧ Scal w' b (TH j) (TL j) (-(e + lp + 3)) ∧ Below b w w' := by
  subst hp
  exact prescale_any TH TL w b j v0 v1 v2 e lp hT hj hb he hlp c0 c1 c2 f0 f1 f2

theorem prescale_new (TH TL : Nat → Int) (w : World) (j : Nat) (e p lp : Int) (hp : p = (j : Int) - 348) (hT : PTab w TH TL) (hj : j < 696) (hsz : 3 < w.heap.size) (he : -3000 ≤ e ∧ e ≤ 3000) (hlp : -3000 ≤ lp ∧ lp ≤ 3000) :
    Calls Tryd.prog 81 #[.pointer (some ⟨w.heap.size, 0, none⟩), .int .i64 e, .int .i64 p, .int .i64 lp] (w.alloc (Obj.cells #[Value.int IntKind.u64 0, Value.int IntKind.u64 0, Value.int IntKind.i64 0] 90)) fun en w' => en = .returned (.tuple #[]) ∧ Scal w' w.heap.size (TH j) (TL j) (-(e + lp + 3)) ∧ Below w.heap.size w w' := by
  have hb : Below w.heap.size w (w.alloc (Obj.cells #[Value.int IntKind.u64 0, Value.int IntKind.u64 0, Value.int IntKind.i64 0] 90)) := (Below.refl _ _).alloc (Nat.le_refl _) _
  have hT' : PTab (w.alloc (Obj.cells #[Value.int IntKind.u64 0, Value.int IntKind.u64 0, Value.int IntKind.i64 0] 90)) TH TL := fun i hi => by
    have h := hT i hi
    exact ⟨(hb.cell (p := ⟨3, i * 2, none⟩) hsz).trans h.1, (hb.cell (p := ⟨3, i * 2 + 1, none⟩) hsz).trans h.2⟩
  refine (prescale_at TH TL _ w.heap.size j (.int .u64 0) (.int .u64 0) (.int .i64 0) e p lp hp hT' hj hsz he hlp ?_ ?_ ?_ ?_ ?_ ?_).mono fun en w' ⟨h1, h2, h3⟩ => ⟨h1, h2, hb.trans h3⟩
  · simp
  · simp
  · simp
  · simp
  · simp
  · simp
theorem PTab.below {w w' : World} {TH TL : Nat → Int} (h : PTab w TH TL) (hb : Below w.heap.size w w') (hsz : 3 < w.heap.size) : PTab w' TH TL := fun i hi => ⟨(hb.cell (p := ⟨3, i * 2, none⟩) hsz).trans (h i hi).1, (hb.cell (p := ⟨3, i * 2 + 1, none⟩) hsz).trans (h i hi).2⟩
theorem Scal.drewN {w : World} {b : Nat} {x y z : Int} (h : Scal w b x y z) (q : Nat) : Scal (w.drewN q) b x y z := h
end Go.Proofs.YtnebmbabfghlaaaDoor
