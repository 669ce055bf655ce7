/- shortFloat and numDigits, of any number; the tables that printing reads. -/
import Derived.Test.YtnebmbabfghlaaaDoorSumsF
import Derived.Test.YtnebmbabfghlaaaDoorSumsG
import Derived.Test.YtnebmbabfghlaaaDoorSumsH
import Derived.Test.YtnebmbabfghlaaaDoorSumsN
import Derived.Lib.LaidU8
import Derived.WalkSmall
import Derived.OpenShut
namespace Go.Proofs.YtnebmbabfghlaaaDoor
open Go.RowKit Go.Lib

theorem short_all (TH TL : Nat → Int) (m e : Int) (hT : ∀ i, U64 (TH i) ∧ U64 (TL i)) (hm : U64 m) (he : -1138 ≤ e ∧ e ≤ 1000) :
    ∃ d p, (∀ w, PTab w TH TL → 3 < w.heap.size → Calls Tryd.prog 75 #[.int .u64 m, .int .i64 e] w fun en w' => en = .returned (.tuple #[.int .u64 d, .int .i64 p]) ∧ Below w.heap.size w w') ∧ U64 d ∧ -400 ≤ p ∧ p ≤ 400 := by
  by_cases h1 : m = 9223372036854775808
  · by_cases h2 : e < -1085
    · exact short_low2 TH TL m e hT hm ⟨he.1, h2⟩ h1
    · by_cases h3 : e = -1085
      · exact short_edge TH TL m e hT hm ⟨by omega, by omega⟩ h1
      · exact short_pow TH TL m e hT hm ⟨by omega, he.2⟩ h1
  · have hne : (m == 9223372036854775808) = false := by simpa using h1
    by_cases h2 : e < -1085
    · exact short_low TH TL m e hT hm ⟨he.1, h2⟩ hne
    · exact short_mid TH TL m e hT hm ⟨by omega, he.2⟩ hne

/-- How many digits. -/
def nDig (d : Nat) : Nat := if d = 0 then 0 else Lib.nDigits d
theorem nDig_le (d : Nat) (h : d < 18446744073709551616) : nDig d ≤ 20 := by
  unfold nDig; split
  · omega
  · exact Lib.nDigits_le20 d h
theorem nDig_lt (d : Nat) : d < 10 ^ nDig d := by
  unfold nDig; split
  · rename_i h; subst h; decide
  · exact Lib.lt_pow_nDigits d

theorem g2 : Tryd.prog.globalNamed "internal/strconv.uint64pow10" = some 2 := by kernel_rfl
/-- The tables that printing reads. -/
def Tabs (w : World) (TH TL : Nat → Int) : Prop := PTab w TH TL ∧ Lib.TabIs Tryd.prog w "internal/strconv.uint64pow10" .u64 Lib.pow10Tab ∧ 3 < w.heap.size
theorem Tabs.below {w w' : World} {TH TL : Nat → Int} {n : Nat} (h : Tabs w TH TL) (hb : Below n w w') (hn : 3 < n) : Tabs w' TH TL := by
  obtain ⟨h1, h2, h3⟩ := h
  refine ⟨fun i hi => ⟨(hb.cell (p := ⟨3, i * 2, none⟩) hn).trans (h1 i hi).1, (hb.cell (p := ⟨3, i * 2 + 1, none⟩) hn).trans (h1 i hi).2⟩, ?_, by have := hb.size; omega⟩
  exact var?_below hb g2 (by omega) h2
theorem numDigits_all (d : Nat) (h : d < 18446744073709551616) (TH TL : Nat → Int) (w : World) (ht : Tabs w TH TL) : Calls Tryd.prog 69 #[.int .u64 d] w fun e w' => e = .returned (.int .i64 (nDig d)) ∧ w' = w := by
  unfold nDig; split
  · rename_i h0
    subst h0
    exact numDigits_zero w (ht.2.1.cell g2 0 (by decide))
  · exact numDigits_any d (by omega) h w ht.2.1

theorem own_below {w w' : World} {base size n B : Nat} {e : TypeId} {v : Value} {xs : List Value} (h : w.ownsRow base e size v n xs) (hb : Below B w w') (hv : ∀ k, v.ownBlock = some k → k < B) : w'.ownsRow base e size v n xs := by
  refine ⟨h.1, ?_⟩
  rcases h.2 with hn | ⟨g, cap, cur, rfl, hg, hh, r⟩
  · exact .inl hn
  · exact .inr ⟨g, cap, cur, rfl, hg, by rw [hb.block g (hv g rfl)]; exact hh, r⟩
end Go.Proofs.YtnebmbabfghlaaaDoor
