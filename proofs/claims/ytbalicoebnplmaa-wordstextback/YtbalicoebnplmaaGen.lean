/- The contracts of texts put together: for every text, number and slice of words the package and the document answer the same. -/
import Derived.Test.YtbalicoebnplmaaRefText
import Derived.OpenShut
namespace Go.Proofs.Ytbalicoebnplmaa
open Go.RowKit

/-- The value v is a slice of len words, g of them, in memory that was there. -/
def IsW (w : World) (v : Value) (len : Nat) (g : Nat → Nat) : Prop :=
  ∃ ao cap, v = .slice ao len cap ∧ (len = 0 ∨ ∃ b off, ao = some ⟨b, off, none⟩ ∧ b < w.heap.size ∧ ∀ j, j < len → w.cell? ⟨b, off + j, none⟩ = some (.int .u64 (g j : Nat)))

theorem IsW.later {w w' : World} {v : Value} {len : Nat} {g : Nat → Nat} (h : IsW w v len g) (hb : Below w.heap.size w w') : IsW w' v len g := by
  obtain ⟨ao, cap, rfl, h⟩ := h
  refine ⟨ao, cap, rfl, ?_⟩
  rcases h with h | ⟨b, off, rfl, hlt, hc⟩
  · exact .inl h
  · exact .inr ⟨b, off, rfl, Nat.lt_of_lt_of_le hlt hb.size, fun j hj => (hb.cell (p := ⟨b, off + j, none⟩) hlt).trans (hc j hj)⟩

theorem IsW.of_own {w : World} {base B n cap : Nat} {g : Nat → Nat} (h : w.ownsRow base 22 1 (.slice (some ⟨B, 0, none⟩) n cap) n (rowOf g n)) : IsW w (.slice (some ⟨B, 0, none⟩) n cap) n g :=
  ⟨_, _, rfl, .inr ⟨B, 0, rfl, (h.lt B rfl).2, fun j hj => by rw [Nat.zero_add, h.cellAt j (by omega), rowOf_at _ _ _ hj]⟩⟩

theorem IsW.none (w : World) (g : Nat → Nat) : IsW w (.slice none 0 0) 0 g := ⟨_, _, rfl, .inl rfl⟩

def tErr (s : ByteArray) (n : Int) : Int := if n < 0 ∨ 64 < n then 1 else if 8 * n < (s.size : Int) then 2 else 0
def tLen (s : ByteArray) (n : Int) : Nat := if tErr s n = 0 then n.toNat else 0

theorem text_all (s : ByteArray) (n : Int) (w : World) :
    Calls Try.prog 14 #[.string s, .int .i64 n] w fun e w' => ∃ v, e = .returned (.tuple #[v, .int .i64 (tErr s n)]) ∧ IsW w' v (tLen s n) (tw (bAt s) s.size) ∧ Below w.heap.size w w' := by
  by_cases h : n < 0 ∨ 64 < n
  · refine (text_arg s n w h).mono ?_
    rintro e w' ⟨rfl, rfl⟩
    have e1 : tErr s n = 1 := by unfold tErr; rw [if_pos h]
    have e2 : tLen s n = 0 := by unfold tLen; rw [e1]; rfl
    rw [e1, e2]
    exact ⟨_, rfl, IsW.none _ _, Below.refl _ _⟩
  · obtain ⟨N, rfl⟩ := Int.eq_ofNat_of_zero_le (show 0 ≤ n by omega)
    by_cases h2 : 8 * (N : Int) < (s.size : Int)
    · refine (text_range s N w (by omega) (by omega)).mono ?_
      rintro e w' ⟨rfl, rfl⟩
      have e1 : tErr s N = 2 := by unfold tErr; rw [if_neg h, if_pos h2]
      have e2 : tLen s N = 0 := by unfold tLen; rw [e1]; rfl
      rw [e1, e2]
      exact ⟨_, rfl, IsW.none _ _, Below.refl _ _⟩
    · refine (text_yes s N w (by omega) (by omega)).mono ?_
      rintro e w' ⟨rfl, hown, hb⟩
      have e1 : tErr s N = 0 := by unfold tErr; rw [if_neg h, if_neg h2]
      have e2 : tLen s N = N := by unfold tLen; rw [if_pos e1, Int.toNat_natCast]
      rw [e1, e2]
      exact ⟨_, rfl, IsW.of_own hown, hb⟩

theorem refText_all (s : ByteArray) (n : Int) (w : World) :
    Calls Try.prog 15 #[.string s, .int .i64 n] w fun e w' => ∃ v, e = .returned (.tuple #[v, .int .i64 (tErr s n)]) ∧ IsW w' v (tLen s n) (tw (bAt s) s.size) ∧ Below w.heap.size w w' := by
  by_cases h : n < 0 ∨ 64 < n
  · refine (refText_arg s n w h).mono ?_
    rintro e w' ⟨rfl, rfl⟩
    have e1 : tErr s n = 1 := by unfold tErr; rw [if_pos h]
    have e2 : tLen s n = 0 := by unfold tLen; rw [e1]; rfl
    rw [e1, e2]
    exact ⟨_, rfl, IsW.none _ _, Below.refl _ _⟩
  · obtain ⟨N, rfl⟩ := Int.eq_ofNat_of_zero_le (show 0 ≤ n by omega)
    by_cases h2 : 8 * (N : Int) < (s.size : Int)
    · refine (refText_range s N w (by omega) (by omega)).mono ?_
      rintro e w' ⟨rfl, rfl⟩
      have e1 : tErr s N = 2 := by unfold tErr; rw [if_neg h, if_pos h2]
      have e2 : tLen s N = 0 := by unfold tLen; rw [e1]; rfl
      rw [e1, e2]
      exact ⟨_, rfl, IsW.none _ _, Below.refl _ _⟩
    · refine (refText_yes s N w (by omega) (by omega)).mono ?_
      rintro e w' ⟨rfl, hown, hb⟩
      have e1 : tErr s N = 0 := by unfold tErr; rw [if_neg h, if_neg h2]
      have e2 : tLen s N = N := by unfold tLen; rw [if_pos e1, Int.toNat_natCast]
      rw [e1, e2]
      exact ⟨_, rfl, IsW.of_own hown, hb⟩

theorem same_all (v1 v2 : Value) (n : Nat) (g : Nat → Nat) (w : World) (hn : n * 8 ≤ 140737488351232) (h1 : IsW w v1 n g) (h2 : IsW w v2 n g) :
    Calls Try.prog 18 #[v1, v2] w fun e w' => e = .returned (.bool true) ∧ Below w.heap.size w w' := by
  obtain ⟨a1, c1, rfl, h1⟩ := h1
  obtain ⟨a2, c2, rfl, h2⟩ := h2
  by_cases h0 : n = 0
  · subst h0
    refine (same_zero a1 a2 c1 c2 w).mono ?_
    rintro e w' ⟨rfl, m, rfl⟩
    exact ⟨rfl, below_drewN (Below.refl _ _) _⟩
  · rcases h1 with h1 | ⟨b1, o1, rfl, _, h1⟩
    · exact absurd h1 h0
    rcases h2 with h2 | ⟨b2, o2, rfl, _, h2⟩
    · exact absurd h2 h0
    refine (same_yes b1 o1 c1 b2 o2 c2 n g w hn h1 h2).mono ?_
    rintro e w' ⟨rfl, m, rfl⟩
    exact ⟨rfl, below_drewN (Below.refl _ _) _⟩

def uErr (len : Nat) (n : Int) : Int := if n < 0 ∨ 8 * (len : Int) < n then 1 else 0
def uText (g : Nat → Nat) (len : Nat) (n : Int) : ByteArray := if n < 0 ∨ 8 * (len : Int) < n then ⟨#[]⟩ else mkB (byteF g) n.toNat

theorem untext_all (v : Value) (len : Nat) (g : Nat → Nat) (n : Int) (w : World) (hlen : len * 8 ≤ 140737488351232) (hg : ∀ j, g j < 2 ^ 64) (h : IsW w v len g) :
    Calls Try.prog 16 #[v, .int .i64 n] w fun e w' => e = .returned (.tuple #[.string (uText g len n), .int .i64 (uErr len n)]) ∧ Below w.heap.size w w' := by
  obtain ⟨ao, cap, rfl, h⟩ := h
  unfold uText uErr
  by_cases hn : n < 0 ∨ 8 * (len : Int) < n
  · rw [if_pos hn, if_pos hn]
    refine (untext_arg ao len cap n w hlen hn).mono ?_
    rintro e w' ⟨rfl, rfl⟩
    exact ⟨rfl, Below.refl _ _⟩
  · rw [if_neg hn, if_neg hn]
    obtain ⟨N, rfl⟩ := Int.eq_ofNat_of_zero_le (show 0 ≤ n by omega)
    rw [Int.toNat_natCast]
    by_cases h0 : len = 0
    · subst h0
      obtain rfl : N = 0 := by omega
      exact untext_zero ao cap g w
    · rcases h with h | ⟨b, off, rfl, hlt, hc⟩
      · exact absurd h h0
      exact untext_yes b off len cap g N w (by omega) hlen hlt hg hc

theorem refUntext_all (v : Value) (len : Nat) (g : Nat → Nat) (n : Int) (w : World) (hlen : len * 8 ≤ 140737488351232) (hg : ∀ j, g j < 2 ^ 64) (h : IsW w v len g) :
    Calls Try.prog 17 #[v, .int .i64 n] w fun e w' => e = .returned (.tuple #[.string (uText g len n), .int .i64 (uErr len n)]) ∧ Below w.heap.size w w' := by
  obtain ⟨ao, cap, rfl, h⟩ := h
  unfold uText uErr
  by_cases hn : n < 0 ∨ 8 * (len : Int) < n
  · rw [if_pos hn, if_pos hn]
    refine (refUntext_arg ao len cap n w hlen hn).mono ?_
    rintro e w' ⟨rfl, rfl⟩
    exact ⟨rfl, Below.refl _ _⟩
  · rw [if_neg hn, if_neg hn]
    obtain ⟨N, rfl⟩ := Int.eq_ofNat_of_zero_le (show 0 ≤ n by omega)
    rw [Int.toNat_natCast]
    by_cases h0 : len = 0
    · subst h0
      obtain rfl : N = 0 := by omega
      exact refUntext_zero ao cap g w
    · rcases h with h | ⟨b, off, rfl, hlt, hc⟩
      · exact absurd h h0
      exact refUntext_yes b off len cap g N w (by omega) hlen hlt hg hc

theorem cell_block {w : World} {b o : Nat} {v : Value} (h : w.cell? ⟨b, o, none⟩ = some v) : b < w.heap.size := by
  rcases Nat.lt_or_ge b w.heap.size with h' | h'
  · exact h'
  · simp [World.cell?, Array.getElem?_eq_none h'] at h

theorem below_chain {w0 w w' : World} (h : Below w0.heap.size w0 w) (h' : Below w.heap.size w w') : Below w0.heap.size w0 w' := h.trans (h'.mono h.size)

end Go.Proofs.Ytbalicoebnplmaa
