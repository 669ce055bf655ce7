/- Two files' blocks, and the free ones. -/
import Derived.Test.YtdjnkibnnjobpaaGreatBdYa
namespace Go.Proofs.YtdjnkibnnjobpaaGreat
open Go.RowKit Go.Maps Go.ChangeMaps

/-- Every block is free, or the one's, or the other's. -/
def Two (W : Int → Int) : Prop := ∀ b, 0 ≤ b → b < 96 → W (200 + b) = 0 ∨ W (200 + b) = 3 ∨ W (200 + b) = 4
theorem Two.keep2 {W W' : Int → Int} (h : Two W) (k : Keeps W W' 2) : Two W' := fun b b0 b1 => by
  have h1 := h b b0 b1
  by_cases e : W (200 + b) = 0 ∨ W (200 + b) = 2 + 1
  · have := k.mine b b0 b1 e
    omega
  · have := (k.oth b b0 b1 (by omega) (by omega)).1
    omega
theorem Two.keep3 {W W' : Int → Int} (h : Two W) (k : Keeps W W' 3) : Two W' := fun b b0 b1 => by
  have h1 := h b b0 b1
  by_cases e : W (200 + b) = 0 ∨ W (200 + b) = 3 + 1
  · have := k.mine b b0 b1 e
    omega
  · have := (k.oth b b0 b1 (by omega) (by omega)).1
    omega
theorem M0_two : Two M0.read := fun b b0 b1 => .inl (M0_zero _ (by omega) (by omega))
theorem two_count {S : Vw} {M : Mem} {mp1 mp2 : Nat → Int} {mr1 mr2 : Int} (hW : S.word M = M.read) (ha : S.away = Vw.new.away) (h1 : Fil M.read 2 mp1 mr1) (h2 : Fil M.read 3 mp2 mr2) (hT : Two M.read) : nFresh S M 96 + ((ownL mp1 mr1).length + (ownL mp2 mr2).length) = 96 := by
  have h := nFresh_list S M 96 (ownL mp1 mr1 ++ ownL mp2 mr2) ?_ ?_ ?_
  · rw [List.length_append] at h
    exact h
  · rw [List.nodup_append]
    refine ⟨ownL_nodup h1, ownL_nodup h2, fun x hx y hy e => ?_⟩
    subst e
    have a := (ownL_mem h1 x).1 hx
    have b := (ownL_mem h2 x).1 hy
    omega
  · intro x hx
    rcases List.mem_append.1 hx with hx | hx
    · have := (ownL_mem h1 x).1 hx; omega
    · have := (ownL_mem h2 x).1 hx; omega
  · intro b hb
    rw [freshB_eq (by omega) (by omega), hW, ha]
    have e1 := ownL_mem h1 (b : Int)
    have e2 := ownL_mem h2 (b : Int)
    have e3 := hT (b : Int) (by omega) (by omega)
    by_cases e : (b : Int) ∈ ownL mp1 mr1 ++ ownL mp2 mr2
    · have hne : ¬ M.read (200 + (b : Int)) = 0 := by
        rcases List.mem_append.1 e with e | e
        · have := (e1.1 e).2.2; omega
        · have := (e2.1 e).2.2; omega
      have hd : decide ((b : Int) ∈ ownL mp1 mr1 ++ ownL mp2 mr2) = true := decide_eq_true e
      rw [hd]
      simp [hne]
    · have hz : M.read (200 + (b : Int)) = 0 := by
        rcases e3 with e3 | e3 | e3
        · exact e3
        · exact absurd (List.mem_append.2 (.inl (e1.2 ⟨by omega, by omega, by omega⟩))) e
        · exact absurd (List.mem_append.2 (.inr (e2.2 ⟨by omega, by omega, by omega⟩))) e
      have hd : decide ((b : Int) ∈ ownL mp1 mr1 ++ ownL mp2 mr2) = false := decide_eq_false e
      rw [hd, hz]
      simp [Vw.new]

end Go.Proofs.YtdjnkibnnjobpaaGreat
