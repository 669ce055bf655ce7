/- Proved: for every slice of words 'CardsRead' returns true and its argument reads afterwards as before. No condition. -/
import Derived.Test.YtechglhmdofcbaaOpen
namespace Go.Proofs.Ytechglhmdofcbaa.cardsRead
open Go.ChangeShapes Go.WideShapes Go.ChangeAt Go.RowKit
set_option linter.unusedVariables false

set_option maxHeartbeats 1000000 in
theorem walk_two (a : Option Addr) (n c : Nat) (k l s v d0 d1 d2 d3 d4 m x : Int) (w : World)
    (h1 : ∀ w', Below w.heap.size w w' → Calls Try.prog 14 #[.slice a n c] w' fun e w2 => e = .returned (.tuple #[.agg #[.int .i64 k, .int .i64 l, .int .i64 s, .int .u64 v, .int .i64 d0, .int .i64 d1, .int .i64 d2, .int .i64 d3, .int .i64 d4, .int .i64 m], .int .i64 x]) ∧ Below w'.heap.size w' w2)
    (h2 : ∀ w', Below w.heap.size w w' → Calls Try.prog 15 #[.slice a n c] w' fun e w2 => e = .returned (.tuple #[.agg #[.int .i64 k, .int .i64 l, .int .i64 s, .int .u64 v, .int .i64 d0, .int .i64 d1, .int .i64 d2, .int .i64 d3, .int .i64 d4, .int .i64 m], .int .i64 x]) ∧ Below w'.heap.size w' w2) :
    Calls Try.prog 4 #[.slice a n c] w fun e w' => e = .returned (.bool true) ∧ Below w.heap.size w w' := by
  have H1 : Hid _ := h1
  have H2 : Hid _ := h2
  have he : ∀ w, (Op.equalIn 10000 25 (.agg #[.int .i64 k, .int .i64 l, .int .i64 s, .int .u64 v, .int .i64 d0, .int .i64 d1, .int .i64 d2, .int .i64 d3, .int .i64 d4, .int .i64 m]) (.agg #[.int .i64 k, .int .i64 l, .int .i64 s, .int .u64 v, .int .i64 d0, .int .i64 d1, .int .i64 d2, .int .i64 d3, .int .i64 d4, .int .i64 m])).run Try.prog w = .ok true w := fun w => by
    rw [eq_card]; simp
  clear h1 h2
  go_enter Try.func4, Try.ntmps4
  go_wp2_with fail
  refine (lives_any _).mono ?_
  rintro e w1 ⟨rfl, B1⟩
  have HB1 : Hid (Below w.heap.size w w1) := B1
  clear B1
  go_wp2_with fail
  refine Calls.mono (Hid.out H1 _ HB1.out) ?_
  rintro e w2 ⟨rfl, B2⟩
  have HB2 : Hid (Below w.heap.size w w2) := below_next HB1.out B2 (Nat.le_refl _)
  clear B2
  go_wp2_with fail
  obtain ⟨W, hW, HS, HE, HC⟩ := new_card w2 k l s v d0 d1 d2 d3 d4 m
  rw [hW]
  clear hW
  have HBW : Hid (Below w.heap.size w W) := below_next HB2.out (HE.out _ (Below.refl _ _)) (Nat.le_refl _)
  refine Calls.mono (Hid.out H2 _ HBW.out) ?_
  rintro e w3 ⟨rfl, B3⟩
  obtain ⟨c0, c1, c2, c3, c4, c5, c6, c7, c8, c9⟩ := HC.out _ B3
  have hlt : w2.heap.size < w3.heap.size := by have := HS.out; have := B3.size; omega
  have HB3 : Hid (Below w.heap.size w w3) := below_next HBW.out B3 (Nat.le_refl _)
  clear B3
  go_wp2
  go_ret
  exact ⟨rfl, HB3.out.alloc HB3.out.size _⟩

theorem walk (a : Option Addr) (n c : Nat) (w : World) (h : Words w a n) :
    Calls Try.prog 4 #[.slice a n c] w fun e w' => e = .returned (.bool true) ∧ Below w.heap.size w w' := by
  rcases h with h | ⟨rfl, b, o, a0, a1, a2, a3, a4, a5, a6, a7, rfl, hs, h0, h2, h3⟩
  · exact walk_two a n c 0 0 0 0 0 0 0 0 0 0 15 w (fun w' _ => read_len a n c w' h) (fun w' _ => refRead_len a n c w' h)
  · obtain ⟨k, l, s, d0, d1, d2, d3, d4, m, hy⟩ : ∃ k l s d0 d1 d2 d3 d4 m, Says a0 a2 a3 k l s d0 d1 d2 d3 d4 m := ⟨_, _, _, _, _, _, _, _, _, rfl, rfl, rfl, rfl, rfl, rfl, rfl, rfl, rfl⟩
    by_cases hr : Rt k l s d0 d1 d2 d3 d4 m
    · by_cases hq : wd0 k l s = a0 ∧ wd2 d0 d1 d2 d3 = a2 ∧ wd3 d4 m = a3 ∧ 0 = a4 ∧ 0 = a5 ∧ 0 = a6 ∧ 0 = a7
      · exact walk_two _ 8 c k l s a1 d0 d1 d2 d3 d4 m 0 w (fun w' hb => read_yes b o c a0 a1 a2 a3 a4 a5 a6 a7 k l s d0 d1 d2 d3 d4 m w' (hs.later (Nat.le_refl _) hb) h0 h2 h3 hy hr hq) (fun w' hb => refRead_yes b o c a0 a1 a2 a3 a4 a5 a6 a7 k l s d0 d1 d2 d3 d4 m w' (hs.later (Nat.le_refl _) hb) h0 h2 h3 hy hr hq)
      · exact walk_two _ 8 c 0 0 0 0 0 0 0 0 0 0 15 w (fun w' hb => read_other b o c a0 a1 a2 a3 a4 a5 a6 a7 k l s d0 d1 d2 d3 d4 m w' (hs.later (Nat.le_refl _) hb) h0 h2 h3 hy hr hq) (fun w' hb => refRead_other b o c a0 a1 a2 a3 a4 a5 a6 a7 k l s d0 d1 d2 d3 d4 m w' (hs.later (Nat.le_refl _) hb) h0 h2 h3 hy hr hq)
    · exact walk_two _ 8 c 0 0 0 0 0 0 0 0 0 0 15 w (fun w' hb => read_bad b o c a0 a1 a2 a3 a4 a5 a6 a7 k l s d0 d1 d2 d3 d4 m w' (hs.later (Nat.le_refl _) hb) h0 h2 h3 hy hr) (fun w' hb => refRead_bad b o c a0 a1 a2 a3 a4 a5 a6 a7 k l s d0 d1 d2 d3 d4 m w' (hs.later (Nat.le_refl _) hb) h0 h2 h3 hy hr)

set_option maxRecDepth 100000 in
theorem lifted (os : Os) (started : os.Started) (H : Type) (enc : TypeId × Value → H) :
    ReturnsInHanded {} Try.checked os 4 .any (Rows.cardsReadSpec.pre6 enc Try.prog Try.f4 Rows.cardsReadRow.domain false) (Rows.cardsReadSpec.post enc Try.prog Try.f4 false true false false) := by
  refine returnsInHanded_of_change (C := Try.checked) own started (by kernel_rfl) Try.func4
    (ChangeSpec.witness6 (enc := enc) (C := Try.checked) false ⟨#[], #[.slice none 0 0], []⟩ 8 (by kernel_rfl) (by kernel_rfl) (by kernel_rfl) (by kernel_rfl)) ?_
  intro W base args ds gs before hval0 hW hcnd _
  have hval : ∀ (j : Nat) t v, Try.f4.params[j]? = some t → args[j]? = some v → Value.okWide Try.prog W .any base t v := hval0
  have hW' := hW
  obtain ⟨p, q, hA0, hV, rfl, hfz, hnd⟩ := hW
  have hA : DataW.TrodAll enc Try.prog W 0 (fun _ => true) true Try.f4.params.toList args.toList ds p := hA0
  rw [Try.params4] at hA hval
  obtain ⟨v0, vs0, d0, ds0, p0, q0, hargs, rfl, rfl, h0, r0⟩ := trodAll_cons hA
  obtain ⟨rfl, rfl, rfl⟩ := trodAll_nil r0
  obtain rfl : args = #[v0] := by cases args; simp_all
  obtain ⟨rfl, rfl⟩ := trodVars_none hV
  have k0 := h0
  have lt0 : ∀ x ∈ p0, x.block < W.heap.size := by obtain ⟨m, hm⟩ := k0; exact DataW.trod_lt m _ _ _ hm
  obtain ⟨a0, len0, cap0, rfl, w0⟩ := open_words (hval 0 27 v0 rfl rfl) h0
  clear hA0 hval0
  refine (walk a0 len0 cap0 W w0).mono fun e W' ⟨he, bel⟩ => ?_
  subst he
  exact ⟨_, rfl, _, _, _, [], _, [], hW', trodAll_mk1 (shut_bool Try.underlying4 _), (trodAll_cons_mk (Below.trod laidOut (by kernel_rfl) (of_decide_eq_true (by kernel_rfl)) k0 bel lt0) trodAll_mk0), rfl, bel.frame _, fun h => by cases h⟩

theorem over : Rows.cardsReadRow.holds Try.pinned (OpenSpec.ofChange Rows.cardsReadSpec) :=
  OpenClaim.holds_of_wide 4 Try.f4 rfl rfl rfl rfl rfl rfl rfl ⟨rfl, rfl, rfl, rfl, rfl⟩ rfl rfl rfl rfl rfl (by kernel_rfl) Try.func4 (by kernel_rfl)
    (of_decide_eq_true (by kernel_rfl)) (by unfold Func.isWrapper; first | (rw [if_pos (by decide +kernel)]; kernel_rfl) | (rw [if_neg (by decide +kernel)]; exact ⟨rfl, rfl⟩))
    (fun os started H enc _ => lifted os started H enc)

theorem proved : Rows.CardsReadSaid := over
#print axioms proved
end Go.Proofs.Ytechglhmdofcbaa.cardsRead
