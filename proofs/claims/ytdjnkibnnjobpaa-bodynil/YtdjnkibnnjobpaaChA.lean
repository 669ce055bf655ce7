/- Changes as cells. -/
import Derived.Test.YtdjnkibnnjobpaaVwF
namespace Go.Proofs.Ytdjnkibnnjobpaa
open Go.RowKit Go.Maps Go.ChangeMaps

/-- A change: a word's place, and what it is to be. -/
abbrev Chg := Int × Int
def chgVals (cs : List Chg) : List Value := cs.flatMap fun c => [.int .i64 c.1, .int .u64 c.2]
theorem chgVals_append (a b : List Chg) : chgVals (a ++ b) = chgVals a ++ chgVals b := by simp [chgVals]
theorem chgVals_len (a : List Chg) : (chgVals a).length = a.length * 2 := by
  induction a with
  | nil => rfl
  | cons x a ih => simp only [chgVals, List.flatMap_cons, List.length_append, List.length_cons, List.length_nil] at *; omega
theorem chgVals_one (x y : Int) : chgVals [(x, y)] = [.int .i64 x, .int .u64 y] := by simp [chgVals]
theorem chgVals_at (ss : List Chg) (i : Nat) (hi : i < ss.length) : (chgVals ss)[i * 2]? = some (.int .i64 (ss.getD i (0, 0)).1) ∧ (chgVals ss)[i * 2 + 1]? = some (.int .u64 (ss.getD i (0, 0)).2) := by
  induction ss generalizing i with
  | nil => simp at hi
  | cons s ss ih =>
    have e : chgVals (s :: ss) = [.int .i64 s.1, .int .u64 s.2] ++ chgVals ss := rfl
    cases i with
    | zero => rw [e]; simp
    | succ i =>
      have := ih i (by simpa using hi)
      rw [e, List.getElem?_append_right (by simp; omega), List.getElem?_append_right (by simp; omega)]
      have e1 : (i + 1) * 2 - 2 = i * 2 := by omega
      have e2 : (i + 1) * 2 + 1 - 2 = i * 2 + 1 := by omega
      simp only [List.length_cons, List.length_nil, Nat.zero_add, Nat.reduceAdd, e1, e2]
      simpa using this

/-- Changes lie at a slice's address. -/
def ChgsAt (w : World) (a : Option Addr) (cs : List Chg) : Prop := cs = [] ∨ ∃ b o, a = some ⟨b, o, none⟩ ∧ b < w.heap.size ∧ ∀ i, i < cs.length → w.cell? ⟨b, o + i * 2, none⟩ = some (.int .i64 (cs.getD i (0, 0)).1) ∧ w.cell? ⟨b, o + i * 2 + 1, none⟩ = some (.int .u64 (cs.getD i (0, 0)).2)
theorem ChgsAt.later {w w' : World} {a : Option Addr} {cs : List Chg} (h : ChgsAt w a cs) {B : Nat} (hB : w.heap.size ≤ B) (hb : Below B w w') : ChgsAt w' a cs := by
  rcases h with h | ⟨b, o, e, hlt, hc⟩
  · exact .inl h
  · exact .inr ⟨b, o, e, by have := hb.size; omega, fun i hi => ⟨(hb.cell (p := ⟨b, o + i * 2, none⟩) (by show b < B; omega)).trans (hc i hi).1, (hb.cell (p := ⟨b, o + i * 2 + 1, none⟩) (by show b < B; omega)).trans (hc i hi).2⟩⟩
theorem ChgsAt.only {w w' : World} {a : Option Addr} {cs : List Chg} {X : List Nat} (h : ChgsAt w a cs) (ho : Only X w w') (hX : ∀ b, a.map (·.block) = some b → b ∉ X) : ChgsAt w' a cs := by
  rcases h with h | ⟨b, o, rfl, hlt, hc⟩
  · exact .inl h
  · have hb := ho.block b hlt (hX b rfl)
    exact .inr ⟨b, o, rfl, by have := ho.size; omega, fun i hi => ⟨by rw [World.cell?_of_block (w := w) hb]; exact (hc i hi).1, by rw [World.cell?_of_block (w := w) hb]; exact (hc i hi).2⟩⟩

end Go.Proofs.Ytdjnkibnnjobpaa
