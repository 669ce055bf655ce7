/- Contract of lay: the words of a card whose parts fit their fields. -/
import Derived.Test.YtdjnkibnnjobpaaCdWords
import Derived.Test.YtdjnkibnnjobpaaCdRight
namespace Go.Proofs.Ytdjnkibnnjobpaa.Cd
open Go.RowKit

/-- All parts fit their fields. -/
def Fit (k l s d0 d1 d2 d3 d4 m : Int) : Prop := (0 ≤ k ∧ k ≤ 255) ∧ (0 ≤ l ∧ l ≤ 255) ∧ (0 ≤ s ∧ s ≤ 2688) ∧ Bk d0 d1 d2 d3 d4 m
theorem Rt.fit {k l s d0 d1 d2 d3 d4 m : Int} (h : Rt k l s d0 d1 d2 d3 d4 m) : Fit k l s d0 d1 d2 d3 d4 m := by
  unfold Rt No Fl at h
  unfold Fit
  rcases h with ⟨h0, h1, h2, ⟨h3, h4, h5, h6, h7⟩, h8⟩ | ⟨h0, h1, h2, h3⟩
  · subst h0 h1 h2 h3 h4 h5 h6 h7 h8
    unfold Bk
    omega
  · exact ⟨by omega, h1, h2, h3⟩

/-- A card's first, third and fourth word. -/
def wd0 (k l s : Int) : Int := s * 16777216 + (l * 256 + k)
def wd2 (d0 d1 d2 d3 : Int) : Int := (d3 + 1) * 281474976710656 + ((d2 + 1) * 4294967296 + ((d1 + 1) * 65536 + (d0 + 1)))
def wd3 (d4 m : Int) : Int := (m + 1) * 65536 + (d4 + 1)
theorem wd_bd {k l s d0 d1 d2 d3 d4 m : Int} (h : Rt k l s d0 d1 d2 d3 d4 m) : (0 ≤ wd0 k l s ∧ wd0 k l s ≤ 18446744073709551615) ∧ (0 ≤ wd2 d0 d1 d2 d3 ∧ wd2 d0 d1 d2 d3 ≤ 18446744073709551615) ∧ (0 ≤ wd3 d4 m ∧ wd3 d4 m ≤ 18446744073709551615) := by
  have := h.fit
  unfold Fit Bk at this
  unfold wd0 wd2 wd3
  omega
end Go.Proofs.Ytdjnkibnnjobpaa.Cd
