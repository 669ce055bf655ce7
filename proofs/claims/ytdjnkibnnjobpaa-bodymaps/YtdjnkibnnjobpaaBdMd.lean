/- What Keep leaves of any map that may be; words of an image. -/
import Derived.Test.YtdjnkibnnjobpaaBdMc
import Derived.Test.YtdjnkibnnjobpaaCdRefRight
namespace Go.Proofs.Ytdjnkibnnjobpaa
open Go.RowKit Go.Maps Go.ChangeMaps

/-- A kept map is the card's. -/
structure KeptB (W : Int → Int) (mf : Nat → Int) (mr : Int) : Prop where
  rng : -1 ≤ mr ∧ mr < 96
  may : mr = -1 ∨ (∀ i : Nat, i < 16 → W (1288 + 16 * mr + (i : Int)) ≤ 96) ∧ ∃ i : Nat, i < 16 ∧ W (1288 + 16 * mr + (i : Int)) ≠ 0
  back : ∀ i, i < 21 → mapF W (mf 0) (mf 1) (mf 2) (mf 3) (mf 4) mr i = mf i
  more : decide (0 ≤ mr) = anyB (fun i => mf (5 + i)) 16
theorem kept_any {S S' : Vw} {M : Mem} {mf : Nat → Int} {mr : Int} (k : KMore S M 2 (-1) mf mr 0 S') (hf : ∀ i, i < 21 → -1 ≤ mf i ∧ mf i < 96) : KeptB (S'.word M) mf mr := by
  rcases k with ⟨ha, h1, h2, _, h3⟩ | ⟨ha, h1, h2, _, h3⟩ | ⟨ha, h1, _, q, hq, hfr, _, h2, h3⟩ | ⟨_, _, h, _⟩ | ⟨ha, h1, _, h2, h3⟩
  · subst h2 h3
    have hall := (allH_iff _ _).1 ha
    refine ⟨⟨by omega, by omega⟩, .inl rfl, fun i hi => kept_map (fun _ => hall) (fun e => absurd rfl e) i hi, ?_⟩
    have : anyB (fun i => mf (5 + i)) 16 = false := by
      unfold anyB
      rw [decide_eq_false_iff_not]
      rintro ⟨i, hi, h0⟩
      have := hall i hi
      simp only at this h0
      omega
    rw [this]; rfl
  · exact absurd rfl h1
  · subst h2 h3
    have g := giveW S M q 2 (by omega) (by omega)
    have g2 := setW (S.give q 2) M q (moreRow mf)
    have hc : ∀ i : Nat, i < 16 → ((S.give q 2).setB q (moreRow mf)).word M (1288 + 16 * (q : Int) + (i : Int)) = mf (5 + i) + 1 := fun i hi => by rw [g2.at_ i hi, moreRow_at mf i hi]
    obtain ⟨i, hi, hx⟩ := some_more ha
    have hr := hf (5 + i) (by omega)
    refine ⟨⟨by omega, by omega⟩, .inr ⟨fun i hi => by rw [hc i hi]; have := hf (5 + i) (by omega); omega, i, hi, by rw [hc i hi]; omega⟩, fun i hi => kept_map (fun e => by omega) (fun _ => hc) i hi, ?_⟩
    have e1 : decide (0 ≤ (q : Int)) = true := decide_eq_true (by omega)
    have e2 : anyB (fun i => mf (5 + i)) 16 = true := by
      unfold anyB
      rw [decide_eq_true_iff]
      exact ⟨i, hi, by show 0 ≤ mf (5 + i); omega⟩
    rw [e1, e2]
  · cases h
  · exact absurd rfl h1
theorem img_word (g : Nat → Int) (i : Nat) (hi : i < 2824) : Vw.new.word (fresh (imgL g)) (i : Int) = g i := by
  have h := fresh_read g i hi
  unfold Vw.word Vw.new
  simpa using h
theorem rt_more {k l s d0 d1 d2 d3 d4 m : Int} (h : Cd.Rt k l s d0 d1 d2 d3 d4 m) : -1 ≤ m ∧ m < 96 := by
  rcases h with h | h
  · unfold Cd.No at h; omega
  · have := h.2.2.2
    unfold Cd.Bk at this
    omega
/-- Is this map one that may be, so far? -/
def mayTo (f : Nat → Int) (n k : Nat) : Bool := decide (n = 21) && decide (∀ i, i < k → -1 ≤ f i ∧ f i < 96)
theorem mayTo_zero (f : Nat → Int) (n : Nat) : mayTo f n 0 = decide (n = 21) := by
  unfold mayTo
  rw [decide_eq_true (p := ∀ i, i < 0 → -1 ≤ f i ∧ f i < 96) (fun i hi => absurd hi (Nat.not_lt_zero i)), Bool.and_true]
theorem mayTo_succ (f : Nat → Int) (n k : Nat) : mayTo f n (k + 1) = (mayTo f n k && decide (-1 ≤ f k) && decide (f k < 96)) := by
  unfold mayTo
  rw [Bool.eq_iff_iff]
  simp only [Bool.and_eq_true, decide_eq_true_iff]
  constructor
  · rintro ⟨h1, h2⟩
    exact ⟨⟨⟨h1, fun i hi => h2 i (by omega)⟩, (h2 k (by omega)).1⟩, (h2 k (by omega)).2⟩
  · rintro ⟨⟨⟨h1, h2⟩, h3⟩, h4⟩
    refine ⟨h1, fun i hi => ?_⟩
    by_cases e : i = k
    · subst e; exact ⟨h3, h4⟩
    · exact h2 i (by omega)
theorem mayTo_all (f : Nat → Int) (n : Nat) : mayTo f n n = mayB f n := rfl
theorem B_some (W : Int → Int) (m : Int) : ∃ B : Bool, B = true ↔ m = -1 ∨ (∀ i : Nat, i < 16 → W (1288 + 16 * m + (i : Int)) ≤ 96) ∧ ∃ i : Nat, i < 16 ∧ W (1288 + 16 * m + (i : Int)) ≠ 0 := by
  by_cases h : m = -1 ∨ (∀ i : Nat, i < 16 → W (1288 + 16 * m + (i : Int)) ≤ 96) ∧ ∃ i : Nat, i < 16 ∧ W (1288 + 16 * m + (i : Int)) ≠ 0
  · exact ⟨true, fun _ => h, fun _ => rfl⟩
  · exact ⟨false, ⟨fun e => absurd e (by decide), fun e => absurd e h⟩⟩
theorem irow_ints {w : World} {g : Nat} {f : Nat → Int} (h : IRow w g 21 f) : IntsAt w (some ⟨g, 0, none⟩) 21 f := .inr ⟨g, 0, rfl, h.lt, fun i hi => by rw [Nat.zero_add]; exact h.cell i hi⟩
theorem bounds_i64m {x : Int} (h : (Lit.int .i64 x).wf = true) : -9223372036854775808 ≤ x ∧ x ≤ 9223372036854775807 := by
  simp [Lit.wf, IntKind.min, IntKind.max, IntKind.signed, IntKind.bits] at h
  omega

end Go.Proofs.Ytdjnkibnnjobpaa
