/- Proved: for every text, number and slice of words, 'WordsTexts' returns true and its arguments read afterwards as before. No condition. -/
import Derived.Test.YtbalicoebnplmaaRows
import Derived.Test.YtbalicoebnplmaaGen
import Derived.ProofKit
import Derived.OpenShut
import Derived.ShutString
import Derived.SizedLaws
namespace Go.Proofs.Ytbalicoebnplmaa.wordsTexts
open Go.ChangeShapes Go.WideShapes Go.ChangeAt Go.RowKit
open Go.ChangeMaps (open_string shut_string)
set_option linter.unusedVariables false

theorem own : ownKnob Try.prog.godebug = none := by kernel_rfl
theorem laidOut : laidOutB Try.prog = true := by kernel_rfl
theorem bytes22 : Try.prog.bytesOf 22 = 8 := by kernel_rfl

theorem isW_of {w : World} {x : Addr} {len cap : Nat} {zs : List Int} (hl : len ≤ cap) (hz : zs.length = cap) (hc : ∀ i, i < zs.length → w.cell? (x.add i) = some (.int .u64 (zs.getD i 0))) (hw : ∀ n ∈ zs, (Lit.int .u64 n).wf = true) :
    IsW w (.slice (some x) len cap) len fun j => (zs.getD j 0).toNat := by
  refine ⟨_, _, rfl, ?_⟩
  by_cases h0 : len = 0
  · exact .inl h0
  · obtain ⟨b, off, rfl, hcell⟩ := ints_at hc (by omega)
    refine .inr ⟨b, off, rfl, cell_block (hcell 0 (by omega)), fun j hj => ?_⟩
    rw [hcell j (by omega)]
    have := range_u64 hw j
    rw [← List.getD_eq_getElem?_getD] at this
    rw [Int.toNat_of_nonneg this.1]

theorem tLen_le (s : ByteArray) (n : Int) : tLen s n ≤ 64 := by
  unfold tLen
  by_cases h : n < 0 ∨ 64 < n
  · have e : tErr s n = 1 := by unfold tErr; rw [if_pos h]
    rw [e, if_neg (by decide)]; omega
  · split <;> omega

theorem walk (s : ByteArray) (n : Int) (a2 : Option Addr) (len cap : Nat) (g : Nat → Nat) (w : World) (hs : s.size ≤ maxLen) (hn : -9223372036854775808 ≤ n ∧ n ≤ 9223372036854775807) (hg : ∀ j, g j < 2 ^ 64) (hW : IsW w (.slice a2 len cap) len g) (hlen : len * 8 ≤ 140737488351232) :
    Calls Try.prog 5 #[.string s, .int .i64 n, .slice a2 len cap] w fun e w' => e = .returned (.bool true) ∧ Below w.heap.size w w' := by
  have htl : tLen s n * 8 ≤ 140737488351232 := by have := tLen_le s n; omega
  have HN : Hid _ := hn
  clear hn
  go_enter Try.func5, Try.ntmps5
  go_wp2_with fail
  refine (lives_any _).mono ?_
  rintro e w1 ⟨rfl, hb1⟩
  go_wp2_with fail
  refine (text_all s n _).mono ?_
  rintro e w2 ⟨va, rfl, hva, hb2⟩
  go_wp2_with fail
  refine (refText_all s n _).mono ?_
  rintro e w3 ⟨vb, rfl, hvb, hb3⟩
  have c2 := below_chain hb1 hb2
  have c3 := below_chain c2 hb3
  go_wp2_with fail
  refine (untext_all _ len g n _ hlen hg (hW.later c3)).mono ?_
  rintro e w4 ⟨rfl, hb4⟩
  have c4 := below_chain c3 hb4
  go_wp2_with fail
  refine (refUntext_all _ len g n _ hlen hg (hW.later c4)).mono ?_
  rintro e w5 ⟨rfl, hb5⟩
  have c5 := below_chain c4 hb5
  go_wp2_with fail
  refine (same_all va vb (tLen s n) _ _ htl (hva.later (below_chain hb3 (below_chain hb4 hb5))) (hvb.later (below_chain hb4 hb5))).mono ?_
  rintro e w6 ⟨rfl, hb6⟩
  have c6 := below_chain c5 hb6
  clear hb1 hb2 hb3 hb4 hb5 hb6 c2 c3 c4 c5 hva hvb
  go_wp2_with fail
  refine (hash_any s _ hs).mono ?_
  rintro e w7 ⟨rfl, rfl⟩
  go_wp2_with fail
  refine (refHash_any s _ hs).mono ?_
  rintro e w8 ⟨rfl, rfl⟩
  go_wp2
  go_ret
  exact ⟨rfl, c6⟩

set_option maxRecDepth 100000 in
theorem lifted (os : Os) (started : os.Started) (H : Type) (enc : TypeId × Value → H) :
    ReturnsInHanded {} Try.checked os 5 .any (Rows.wordsTextsSpec.pre6 enc Try.prog Try.f5 Rows.wordsTextsRow.domain false) (Rows.wordsTextsSpec.post enc Try.prog Try.f5 false true false false) := by
  refine returnsInHanded_of_change_sized (C := Try.checked) own started (by kernel_rfl) Try.func5
    (ChangeSpec.witness6 (enc := enc) (C := Try.checked) false ⟨#[], #[.string ByteArray.empty, .int .i64 0, .slice none 0 0], []⟩ 8 (by kernel_rfl) (by kernel_rfl) (by kernel_rfl) (by kernel_rfl)) ?_
  intro W base args ds gs before hval0 hW hcnd hsz0 _
  have hval : ∀ (j : Nat) t v, Try.f5.params[j]? = some t → args[j]? = some v → Value.okWide Try.prog W .any base t v := hval0
  have hW' := hW
  obtain ⟨p, q, hA0, hV, rfl, hfz, hnd⟩ := hW
  have hA : DataW.TrodAll enc Try.prog W 0 (fun _ => true) true Try.f5.params.toList args.toList ds p := hA0
  have hsz : (DataW.weightsEach Try.prog (Try.f5.params.toList ++ Rows.wordsTextsSpec.plain.varTypes Try.prog) (ds ++ gs)).all (· ≤ reachBytes) = true := hsz0
  rw [Try.params5] at hA hval hsz
  obtain ⟨v0, vs0, d0, ds0, p0, q0, hargs, rfl, rfl, h0, r0⟩ := trodAll_cons hA
  obtain ⟨v1, vs1, d1, ds1, p1, q1, rfl, rfl, rfl, h1, r1⟩ := trodAll_cons r0
  obtain ⟨v2, vs2, d2, ds2, p2, q2, rfl, rfl, rfl, h2, r2⟩ := trodAll_cons r1
  obtain ⟨rfl, rfl, rfl⟩ := trodAll_nil r2
  obtain rfl : args = #[v0, v1, v2] := by cases args; simp_all
  obtain ⟨rfl, rfl⟩ := trodVars_none hV
  obtain ⟨a0, rfl, rfl, rfl, w0⟩ := open_string Try.underlying9 (hval 0 9 v0 rfl rfl) h0
  obtain ⟨a1, rfl, rfl, rfl, w1⟩ := open_int Try.underlying3 (hval 1 3 v1 rfl rfl) h1
  obtain ⟨a2, len2, cap2, rfl⟩ := okWide_slice Try.underlying32 (hval 2 32 v2 rfl rfl)
  have k2 := h2
  have lt2 : ∀ x ∈ p2, x.block < W.heap.size := by obtain ⟨m, hm⟩ := k2; exact DataW.trod_lt m _ _ _ hm
  obtain ⟨g, hg, hw2, hreach⟩ : ∃ g : Nat → Nat, (∀ j, g j < 2 ^ 64) ∧ IsW W (.slice a2 len2 cap2) len2 g ∧ len2 * 8 ≤ 140737488351232 := by
    obtain ⟨fuel, hf⟩ := h2
    rcases open_ints Try.underlying32 Try.underlying22 (by kernel_rfl) hf with ⟨hcs, _⟩ | ⟨x, l, c, zs, hcs, _, hl, hm, hz, hx, hcell, hwz⟩
    · simp [Value.cells] at hcs
      obtain ⟨rfl, rfl, rfl⟩ := hcs
      exact ⟨fun _ => 0, fun _ => Nat.two_pow_pos _, ⟨_, _, rfl, .inl rfl⟩, by omega⟩
    · simp [Value.cells] at hcs
      obtain ⟨rfl, rfl, rfl⟩ := hcs
      simp only [Prod.mk.injEq] at hx
      have hd : d2 = _ := hx.1
      have hz' : zs.length = cap2 := by simpa using hz
      have hr : len2 * 8 ≤ 140737488351232 := by
        rw [hd] at hsz
        have := sized_slice hsz (j := 2) (t := 32) (e := 22) rfl rfl Try.underlying32
        rw [bytes22] at this
        simp only [lits, List.length_map, List.length_take, List.length_drop, reachBytes] at this
        omega
      refine ⟨fun j => (zs.getD j 0).toNat, fun j => ?_, isW_of hl hz' hcell hwz, hr⟩
      have := range_u64 hwz j
      rw [← List.getD_eq_getElem?_getD] at this
      show (zs.getD j 0).toNat < 2 ^ 64
      omega
  clear hA0 hval0
  refine (walk a0 a1 a2 len2 cap2 g W w0 (bounds_i64 w1) hg hw2 hreach).mono fun e W' ⟨he, bel⟩ => ?_
  subst he
  exact ⟨_, rfl, _, _, _, [], _, [], hW', trodAll_mk1 (shut_bool Try.underlying4 _), (trodAll_cons_mk (shut_string Try.underlying9 w0) (trodAll_cons_mk (shut_int Try.underlying3 w1) (trodAll_cons_mk (Below.trod laidOut (by kernel_rfl) (of_decide_eq_true (by kernel_rfl)) k2 bel lt2) trodAll_mk0))), rfl, bel.frame _, fun h => by cases h⟩

theorem over : Rows.wordsTextsRow.holds Try.pinned (OpenSpec.ofChange Rows.wordsTextsSpec) :=
  OpenClaim.holds_of_wide 5 Try.f5 rfl rfl rfl rfl rfl rfl rfl ⟨rfl, rfl, rfl, rfl, rfl⟩ rfl rfl rfl rfl rfl (by kernel_rfl) Try.func5 (by kernel_rfl)
    (of_decide_eq_true (by kernel_rfl)) (by unfold Func.isWrapper; first | (rw [if_pos (by decide +kernel)]; kernel_rfl) | (rw [if_neg (by decide +kernel)]; exact ⟨rfl, rfl⟩))
    (fun os started H enc _ => lifted os started H enc)

/-- ████ THE STATEMENT ████ -/
theorem proved : Rows.WordsTextsSaid := over
#print axioms proved
end Go.Proofs.Ytbalicoebnplmaa.wordsTexts
