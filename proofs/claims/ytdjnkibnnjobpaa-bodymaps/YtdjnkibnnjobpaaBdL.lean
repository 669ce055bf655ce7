/- Contracts of Write and Cut: what becomes of a file. -/
import Derived.Test.YtdjnkibnnjobpaaBdH
import Derived.Test.YtdjnkibnnjobpaaBdK
namespace Go.Proofs.Ytdjnkibnnjobpaa
open Go.RowKit Go.Maps Go.ChangeMaps

/-- A file, with its card's places and More. -/
def FileIs (W : Int → Int) (node d0 d1 d2 d3 d4 m : Int) : Prop := Fil W node (mapF W d0 d1 d2 d3 d4 m) m ∧ (m ≠ -1 → ∃ i : Nat, i < 16 ∧ W (1288 + 16 * m + (i : Int)) ≠ 0)
theorem FileIs.may {W : Int → Int} {node d0 d1 d2 d3 d4 m : Int} (h : FileIs W node d0 d1 d2 d3 d4 m) : m = -1 ∨ (∀ i : Nat, i < 16 → W (1288 + 16 * m + (i : Int)) ≤ 96) ∧ ∃ i : Nat, i < 16 ∧ W (1288 + 16 * m + (i : Int)) ≠ 0 := by
  by_cases e : m = -1
  · exact .inl e
  · refine .inr ⟨fun i hi => ?_, h.2 e⟩
    have := (h.1.rng (5 + i) (by omega)).2
    unfold mapF at this
    rw [if_neg (by omega), if_neg e, show 5 + i - 5 = i by omega] at this
    omega
theorem Fil.congr {W : Int → Int} {node : Int} {mp mp' : Nat → Int} {mr : Int} (h : Fil W node mp mr) (e : ∀ i, i < 21 → mp' i = mp i) : Fil W node mp' mr := by
  refine ⟨fun i hi => by rw [e i hi]; exact h.rng i hi, fun i j hi hj he hx => ?_, fun i hi hx => ?_, h.mrng, fun hx => ⟨(h.mown hx).1, fun i hi => by rw [e i hi]; exact (h.mown hx).2 i hi⟩, fun b b0 b1 hb => ?_⟩
  · rw [e i hi] at he hx
    rw [e j hj] at he
    exact h.inj i j hi hj he hx
  · rw [e i hi] at hx ⊢
    exact h.own i hi hx
  · rcases h.all b b0 b1 hb with x | ⟨i, hi, x⟩
    · exact .inl x
    · exact .inr ⟨i, hi, by rw [e i hi]; exact x⟩
theorem dirF_at (mp : Nat → Int) (i : Nat) (h : i < 5) : dirF (mp 0) (mp 1) (mp 2) (mp 3) (mp 4) i = mp i := by
  match i, h with
  | 0, _ => rfl
  | 1, _ => rfl
  | 2, _ => rfl
  | 3, _ => rfl
  | 4, _ => rfl
/-- What a kept map's card tells. -/
structure KeptF (W W' : Int → Int) (node : Int) (mp : Nat → Int) (d0 d1 d2 d3 d4 mr : Int) (S S' : Vw) : Prop where
  file : FileIs W' node d0 d1 d2 d3 d4 mr
  map : ∀ i, i < 21 → mapF W' d0 d1 d2 d3 d4 mr i = mp i
  keeps : Keeps W W' node
  bytes : ∀ i, i < 2688 → fileB W' mp i = fileB W mp i
  away : S'.away = S.away ∧ S'.awayN = S.awayN
theorem kept_map {W : Int → Int} {mp : Nat → Int} {mr : Int} (h0 : mr = -1 → ∀ i, i < 16 → mp (5 + i) = -1) (h1 : mr ≠ -1 → ∀ i : Nat, i < 16 → W (1288 + 16 * mr + (i : Int)) = mp (5 + i) + 1) (i : Nat) (hi : i < 21) : mapF W (mp 0) (mp 1) (mp 2) (mp 3) (mp 4) mr i = mp i := by
  unfold mapF
  by_cases h5 : i < 5
  · rw [if_pos h5]; exact dirF_at mp i h5
  · rw [if_neg h5]
    have e : 5 + (i - 5) = i := by omega
    by_cases hm : mr = -1
    · rw [if_pos hm]
      have := h0 hm (i - 5) (by omega)
      rw [e] at this
      exact this.symm
    · rw [if_neg hm, h1 hm (i - 5) (by omega), e]
      omega
theorem some_more {mp : Nat → Int} (h : allH (fun i => mp (5 + i)) 16 = false) : ∃ i, i < 16 ∧ mp (5 + i) ≠ -1 := by
  rcases allH_first (fun i => mp (5 + i)) 16 with e | ⟨_, q, hq, hx, _⟩
  · rw [e] at h; cases h
  · exact ⟨q, hq, hx⟩
theorem kept_file {S S' : Vw} {M : Mem} {node m : Int} {mp : Nat → Int} {mr : Int} (hF : Fil (S.word M) node mp m) (k : KMore S M node m mp mr 0 S') (n0 : 0 ≤ node) : KeptF (S.word M) (S'.word M) node mp (mp 0) (mp 1) (mp 2) (mp 3) (mp 4) mr S S' := by
  have rm := hF.mrng
  rcases k with ⟨ha, h1, h2, _, h3⟩ | ⟨ha, h1, h2, _, h3⟩ | ⟨ha, h1, _, q, hq, hf, _, h2, h3⟩ | ⟨_, _, h, _⟩ | ⟨ha, h1, _, h2, h3⟩
  · subst h1 h2 h3
    have hall := (allH_iff _ _).1 ha
    have hm := kept_map (W := S'.word M) (mp := mp) (mr := -1) (fun _ => hall) (fun e => absurd rfl e)
    exact ⟨⟨hF.congr hm, fun e => absurd rfl e⟩, hm, Keeps.refl _ _, fun _ _ => rfl, rfl, rfl⟩
  · subst h2 h3
    have hall := (allH_iff _ _).1 ha
    have hm := kept_map (W := (S.drop m).word M) (mp := mp) (mr := -1) (fun _ => hall) (fun e => absurd rfl e)
    have g := dropW S M m
    have o := (hF.mown h1).1
    exact ⟨⟨(hF.dropM g h1 n0).congr hm, fun e => absurd rfl e⟩, hm, Keeps.drop g o (by omega) rm.2, fun i hi => bytes_dropM hF g rm.2 i hi, rfl, rfl⟩
  · subst h1 h2 h3
    have g := giveW S M q node (by omega) (by omega)
    have g2 := setW (S.give q node) M q (moreRow mp)
    have hz := fresh_zero hf
    have f1 := hF.takeM g hz (by omega) (by omega) n0
    have f2 := f1.set g2 (by omega)
    have hc : ∀ i : Nat, i < 16 → ((S.give q node).setB q (moreRow mp)).word M (1288 + 16 * (q : Int) + (i : Int)) = mp (5 + i) + 1 := fun i hi => by rw [g2.at_ i hi, moreRow_at mp i hi]
    have hm := kept_map (W := ((S.give q node).setB q (moreRow mp)).word M) (mp := mp) (mr := q) (fun e => by omega) (fun _ => hc)
    refine ⟨⟨f2.congr hm, fun _ => ?_⟩, hm, (Keeps.give g hz (by omega) (by omega)).trans (Keeps.set g2 g.own (by omega) (by omega)), fun i hi => ?_, rfl, rfl⟩
    · obtain ⟨i, hi, hx⟩ := some_more ha
      exact ⟨i, hi, by rw [hc i hi]; omega⟩
    · rw [bytes_setM f1 g2 (fun i hi => (f1.mown (by omega)).2 i hi) i hi, bytes_takeM hF g hz n0 (by omega) i hi]
  · cases h
  · subst h2 h3
    have g2 := setW S M mr (moreRow mp)
    have f2 := hF.set g2 (by omega)
    have o := (hF.mown h1).1
    have hc : ∀ i : Nat, i < 16 → (S.setB mr (moreRow mp)).word M (1288 + 16 * mr + (i : Int)) = mp (5 + i) + 1 := fun i hi => by rw [g2.at_ i hi, moreRow_at mp i hi]
    have hm := kept_map (W := (S.setB mr (moreRow mp)).word M) (mp := mp) (mr := mr) (fun e => absurd e h1) (fun _ => hc)
    refine ⟨⟨f2.congr hm, fun _ => ?_⟩, hm, Keeps.set g2 o (by omega) rm.2, fun i hi => bytes_setM hF g2 (hF.mown h1).2 i hi, rfl, rfl⟩
    obtain ⟨i, hi, hx⟩ := some_more ha
    exact ⟨i, hi, by rw [hc i hi]; have := (hF.rng (5 + i) (by omega)).1; omega⟩

end Go.Proofs.Ytdjnkibnnjobpaa
