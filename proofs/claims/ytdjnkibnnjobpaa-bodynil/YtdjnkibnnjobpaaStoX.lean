/- What a view's words say as blocks are taken and given back; a view and the world that the law began with. -/
import Derived.Test.YtdjnkibnnjobpaaStoB
import Derived.Test.YtdjnkibnnjobpaaImgX
namespace Go.Proofs.Ytdjnkibnnjobpaa
open Go.RowKit Go.Maps Go.ChangeMaps

theorem word_row {S : Vw} {M : Mem} {own : Int → Option Int} {a : Int} {f : Nat → Int} {n : Nat} (h : S.own = rowOwn own a f n) (i : Nat) (hi : i < n) : S.word M (a + (i : Int)) = f i := by
  unfold Vw.word
  rw [h]
  unfold rowOwn
  rw [if_pos (by omega), Option.getD_some]
  congr 1
  omega
theorem word_row_out {S S0 : Vw} {M : Mem} {a : Int} {f : Nat → Int} {n : Nat} (h : S.own = rowOwn S0.own a f n) (j : Int) (hj : j < a ∨ a + (n : Int) ≤ j) : S.word M j = S0.word M j := by
  unfold Vw.word
  rw [h]
  unfold rowOwn
  rw [if_neg (by omega)]
theorem upd_word {S S0 : Vw} {M : Mem} {k x : Int} (h : S.own = upd S0.own k (some x)) (j : Int) : S.word M j = if j = k then x else S0.word M j := by
  unfold Vw.word
  rw [h]
  unfold upd
  by_cases e : j = k
  · subst e; simp
  · simp [e]
theorem give_word (S : Vw) (M : Mem) (k node j : Int) (h0 : 0 ≤ k) (h1 : k < 96) (hj : j < 1288) : (S.give k node).word M j = if j = 200 + k then node + 1 else S.word M j := by
  have e1 : (S.give k node).word M j = ({ S with own := upd S.own (200 + k) (some (node + 1)) } : Vw).word M j := word_row_out (S0 := { S with own := upd S.own (200 + k) (some (node + 1)) }) (a := 1288 + 16 * k) (f := fun _ => 0) (n := 16) rfl j (by omega)
  rw [e1]
  exact upd_word rfl j
theorem drop_word (S : Vw) (M : Mem) (k j : Int) : (S.drop k).word M j = if j = 200 + k then 0 else S.word M j := upd_word rfl j
theorem freshB_eq {S : Vw} {M : Mem} {k : Int} (h0 : 0 ≤ k) (h1 : k < 96) : freshB S M k = (decide (M.read (200 + k) = 0) && decide (S.word M (200 + k) = 0) && !S.away k) := by simp [freshB, h0, h1]
theorem give_fresh (S : Vw) (M : Mem) (k node j : Int) (h0 : 0 ≤ k) (h1 : k < 96) (hn : 0 ≤ node) (j0 : 0 ≤ j) (j1 : j < 96) : freshB (S.give k node) M j = (freshB S M j && !decide (j = k)) := by
  rw [freshB_eq j0 j1, freshB_eq j0 j1, give_word S M k node (200 + j) h0 h1 (by omega)]
  by_cases e : j = k
  · subst e
    have : ¬ node + 1 = 0 := by omega
    simp [this]
  · have : ¬ (200 : Int) + j = 200 + k := by omega
    simp only [this, if_false, e, decide_false, Bool.not_false, Bool.and_true]
    rfl
theorem drop_fresh (S : Vw) (M : Mem) (k j : Int) (j0 : 0 ≤ j) (j1 : j < 96) : freshB (S.drop k) M j = if j = k then (decide (M.read (200 + k) = 0) && !S.away k) else freshB S M j := by
  rw [freshB_eq j0 j1, freshB_eq j0 j1, drop_word]
  by_cases e : j = k
  · subst e
    simp [Vw.drop]
  · have : ¬ (200 : Int) + j = 200 + k := by omega
    simp only [this, if_false, e]
    rfl
theorem nFresh_congr {S S' : Vw} {M : Mem} (n : Nat) (h : ∀ j : Nat, j < n → freshB S' M (j : Int) = freshB S M (j : Int)) : nFresh S' M n = nFresh S M n := by
  induction n with
  | zero => rfl
  | succ n ih =>
    unfold nFresh
    rw [h n (by omega), ih fun j hj => h j (by omega)]
/-- One less, where one that was fresh isn't. -/
theorem nFresh_less {S S' : Vw} {M : Mem} (n k : Nat) (hk : freshB S M (k : Int) = true) (h : ∀ j : Nat, j < n → freshB S' M (j : Int) = (freshB S M (j : Int) && !decide ((j : Int) = (k : Int)))) : nFresh S M n = nFresh S' M n + (if k < n then 1 else 0) := by
  induction n with
  | zero => rfl
  | succ n ih =>
    unfold nFresh
    rw [h n (by omega), ih fun j hj => h j (by omega)]
    by_cases e : n = k
    · subst e
      rw [hk]
      simp
    · have e2 : ¬ ((n : Int) = (k : Int)) := by omega
      have e3 : (k < n + 1) = (k < n) := by apply propext; omega
      simp only [e2, decide_false, Bool.not_false, Bool.and_true, e3]
      omega
/-- The lowest of these that is so, if there is one. -/
theorem first_or (p : Nat → Bool) (a n : Nat) : (∃ q, a ≤ q ∧ q < a + n ∧ p q = true ∧ ∀ j, a ≤ j → j < q → p j = false) ∨ ∀ j, a ≤ j → j < a + n → p j = false := by
  induction n with
  | zero => exact .inr fun j h1 h2 => by omega
  | succ n ih =>
    rcases ih with ⟨q, h1, h2, h3, h4⟩ | h
    · exact .inl ⟨q, h1, by omega, h3, h4⟩
    · cases hp : p (a + n) with
      | true => exact .inl ⟨a + n, by omega, by omega, hp, fun j h1 h2 => h j h1 h2⟩
      | false =>
        refine .inr fun j h1 h2 => ?_
        by_cases e : j = a + n
        · subst e; exact hp
        · exact h j h1 (by omega)

/-- A view in a world that began as w0. -/
structure Ses (w0 w : World) (V : VLay) (S : Vw) (N : Nat) (L : Lay) (M : Mem) : Prop where
  on : On w V S N L M
  bel : Below w0.heap.size w0 w
  low : ∀ j ∈ V.all, w0.heap.size ≤ j
section
variable {w0 w w1 : World} {V : VLay} {S S1 : Vw} {N N1 : Nat} {L : Lay} {M : Mem}
theorem Ses.step (h : Ses w0 w V S N L M) (hv : On w1 V S1 N1 L M) (ho : Only V.blocks w w1) : Ses w0 w1 V S1 N1 L M :=
  ⟨hv, h.bel.trans (ho.below h.bel.size fun k hk => h.low k (V.blocks_all k hk)), h.low⟩
theorem Ses.later (h : Ses w0 w V S N L M) (hb : Below w.heap.size w w1) : Ses w0 w1 V S N L M := ⟨h.on.later hb, h.bel.trans (hb.mono h.bel.size), h.low⟩
theorem Ses.mono (h : Ses w0 w V S N L M) (hn : N ≤ N1) : Ses w0 w V S N1 L M := ⟨h.on.mono hn, h.bel, h.low⟩
end
theorem newLay_all {mb G B : Nat} : (∀ j ∈ (newLay mb G).all, B ≤ j) ↔ B ≤ G := by
  simp only [newLay, VLay.all, VLay.blocks, List.mem_append, List.mem_cons, List.not_mem_nil, or_false, Option.toList_none]
  constructor
  · intro h; exact h G (by simp)
  · intro h j hj
    omega
theorem begin_ses {w w1 w2 w3 : World} {L : Lay} {M : Mem} (h1 : Below w.heap.size w w1) (hm2 : MemIs w2 L M) (hb2 : Below w1.heap.size w1 w2) (hv3 : ViewIs w3 (newLay L.mb w2.heap.size) Vw.new 0) (hb3 : Below w2.heap.size w2 w3) : Ses w w3 (newLay L.mb w2.heap.size) Vw.new 0 L M := by
  have s1 := h1.size
  have s2 := hb2.size
  have B2 : Below w.heap.size w w2 := h1.trans (hb2.mono s1)
  refine ⟨⟨hv3, hm2.later hb3, rfl, fun b hb hb2 => ?_⟩, B2.trans (hb3.mono B2.size), newLay_all.2 (by omega)⟩
  have q1 := hm2.all_lt b hb
  have q3 : w2.heap.size ≤ b := (newLay_all (mb := L.mb) (B := w2.heap.size)).2 (Nat.le_refl _) b hb2
  omega

theorem M0_zero (j : Int) (h0 : 2 ≤ j) (h1 : j < 2824) : M0.read j = 0 := by
  have := M0_read j.toNat (by omega) (by omega)
  rwa [Int.toNat_of_nonneg (by omega)] at this

end Go.Proofs.Ytdjnkibnnjobpaa
