/- Proved: for every word, every four numbers and every value, 'WordsBack' returns true and its arguments read afterwards as before. No condition. -/
import Derived.Test.YtbalicoebnplmaaRows
import Derived.Test.YtbalicoebnplmaaLives
import Derived.ProofKit
import Derived.OpenShut
import Derived.ShutString
import Derived.Laws.IdiomArrays
namespace Go.Proofs.Ytbalicoebnplmaa.wordsBack
open Go.ChangeShapes Go.WideShapes Go.ChangeAt Go.RowKit
open Go.ChangeMaps (open_string shut_string)
set_option linter.unusedVariables false

theorem own : ownKnob Try.prog.godebug = none := by kernel_rfl
theorem cells3 : Try.prog.cellsOf 3 = 1 := by kernel_rfl
theorem cells30 : Try.prog.cellsOf 30 = 4 := by kernel_rfl
theorem list4 {α : Type} (l : List α) (h : (⟨l⟩ : Array α).size = 4) : ∃ a b c d, l = [a, b, c, d] := by
  match l, h with
  | [a, b, c, d], _ => exact ⟨a, b, c, d, rfl⟩

theorem old_cells {W w1 : World} (hb : Below W.heap.size W w1) (b : Nat) (h : b < W.heap.size) : ∀ o, w1.cell? ⟨b, o, none⟩ = W.cell? ⟨b, o, none⟩ :=
  fun o => hb.cell (p := ⟨b, o, none⟩) h

theorem four_cells (w w1 : World) (a b c d : Value) (hb : Below (w.alloc (.cells #[a, b, c, d] 30)).heap.size (w.alloc (.cells #[a, b, c, d] 30)) w1) :
    w1.cell? ⟨w.heap.size, 0, none⟩ = some a ∧ w1.cell? ⟨w.heap.size, 1, none⟩ = some b ∧ w1.cell? ⟨w.heap.size, 2, none⟩ = some c ∧ w1.cell? ⟨w.heap.size, 3, none⟩ = some d := by
  have h := old_cells hb w.heap.size (by simp)
  simp [h]

theorem below_box (w w1 : World) (o : Obj) (hb : Below (w.alloc o).heap.size (w.alloc o) w1) : Below w.heap.size w w1 :=
  ((Below.refl _ _).alloc (Nat.le_refl _) _).trans (hb.mono (by simp))

theorem walk_no (x v a n b m : Int) (w : World) (hno : NoField a n) :
    Calls Try.prog 4 #[.int .u64 x, .agg #[.int .i64 a, .int .i64 n, .int .i64 b, .int .i64 m], .int .u64 v] w fun e w' => e = .returned (.bool true) ∧ Below w.heap.size w w' := by
  go_enter Try.func4, Try.ntmps4
  go_wp2_with fail
  refine (lives_any _).mono ?_
  rintro e w1 ⟨rfl, hb⟩
  obtain ⟨c0, c1, c2, c3⟩ := four_cells w w1 _ _ _ _ hb
  have hB := below_box _ _ _ hb
  clear hb
  go_wp2_with fail
  refine (get_no x a n _ hno).mono ?_
  rintro e w2 ⟨rfl, rfl⟩
  go_wp2_with fail
  refine (put_no x a n v _ hno).mono ?_
  rintro e w3 ⟨rfl, rfl⟩
  go_wp2
  go_ret
  exact ⟨rfl, hB⟩

theorem walk_range (x v a n b m : Int) (w : World) (hx0 : 0 ≤ x) (hx : x ≤ 18446744073709551615) (h0 : 0 ≤ a) (h1 : 1 ≤ n) (h2 : a + n ≤ 64) (hv : onesI n < v) :
    Calls Try.prog 4 #[.int .u64 x, .agg #[.int .i64 a, .int .i64 n, .int .i64 b, .int .i64 m], .int .u64 v] w fun e w' => e = .returned (.bool true) ∧ Below w.heap.size w w' := by
  go_enter Try.func4, Try.ntmps4
  go_wp2_with fail
  refine (lives_any _).mono ?_
  rintro e w1 ⟨rfl, hb⟩
  obtain ⟨c0, c1, c2, c3⟩ := four_cells w w1 _ _ _ _ hb
  have hB := below_box _ _ _ hb
  clear hb
  go_wp2_with fail
  refine (get_yes x a n _ hx0 hx h0 h1 h2).mono ?_
  rintro e w2 ⟨rfl, rfl⟩
  go_wp2_with fail
  refine (put_range x a n v _ h0 h1 h2 hv).mono ?_
  rintro e w3 ⟨rfl, rfl⟩
  go_wp2
  go_ret
  exact ⟨rfl, hB⟩

theorem I_get_put (x a n v : Int) (hx0 : 0 ≤ x) (hx : x ≤ 18446744073709551615) (h0 : 0 ≤ a) (h1 : 1 ≤ n) (h2 : a + n ≤ 64) (hv0 : 0 ≤ v) (hv : v ≤ onesI n) : getI (putI x a n v) a n = v := by
  have hp : 0 < 2 ^ n.toNat := Nat.two_pow_pos _
  have h := get_put x.toNat a.toNat n.toNat v.toNat (by omega) (by omega) (by unfold onesI at hv; omega)
  unfold getI putI
  rw [Int.toNat_natCast, h]; omega
theorem I_put_back (x a n v : Int) (hx0 : 0 ≤ x) (hx : x ≤ 18446744073709551615) (h0 : 0 ≤ a) (h1 : 1 ≤ n) (h2 : a + n ≤ 64) (hv0 : 0 ≤ v) (hv : v ≤ onesI n) : putI (putI x a n v) a n (getI x a n) = x := by
  have hp : 0 < 2 ^ n.toNat := Nat.two_pow_pos _
  have h := put_back x.toNat a.toNat n.toNat v.toNat (by omega) (by omega) (by unfold onesI at hv; omega)
  unfold getI putI
  rw [Int.toNat_natCast, Int.toNat_natCast, h]; omega
theorem I_apart (x a n v b m : Int) (hx0 : 0 ≤ x) (hx : x ≤ 18446744073709551615) (h0 : 0 ≤ a) (h1 : 1 ≤ n) (h2 : a + n ≤ 64) (hv0 : 0 ≤ v) (hv : v ≤ onesI n) (hb : 0 ≤ b) (hm : 1 ≤ m) (hap : b + m ≤ a ∨ a + n ≤ b) :
    getI (putI x a n v) b m = getI x b m := by
  have hp : 0 < 2 ^ n.toNat := Nat.two_pow_pos _
  have h := get_apart x.toNat a.toNat n.toNat v.toNat b.toNat m.toNat (by omega) (by omega) (by unfold onesI at hv; omega) (by omega)
  unfold getI putI
  rw [Int.toNat_natCast, h]

theorem walk_one (x v a n b m : Int) (w : World) (hx0 : 0 ≤ x) (hx : x ≤ 18446744073709551615) (h0 : 0 ≤ a) (h1 : 1 ≤ n) (h2 : a + n ≤ 64) (hv0 : 0 ≤ v) (hv : v ≤ onesI n) (hno : NoField b m) :
    Calls Try.prog 4 #[.int .u64 x, .agg #[.int .i64 a, .int .i64 n, .int .i64 b, .int .i64 m], .int .u64 v] w fun e w' => e = .returned (.bool true) ∧ Below w.heap.size w w' := by
  have e1 := I_get_put x a n v hx0 hx h0 h1 h2 hv0 hv
  have e2 := I_put_back x a n v hx0 hx h0 h1 h2 hv0 hv
  have b1 := putI_bd x a n v hx0 hx h0 (by omega) h2 hv0 hv
  have b2 := getI_bd x a n hx0
  have b3 := getI_ones x a n
  go_enter Try.func4, Try.ntmps4
  go_wp2_with fail
  refine (lives_any _).mono ?_
  rintro e w1 ⟨rfl, hb⟩
  obtain ⟨c0, c1, c2, c3⟩ := four_cells w w1 _ _ _ _ hb
  have hB := below_box _ _ _ hb
  clear hb
  go_wp2_with fail
  refine (get_yes x a n _ hx0 hx h0 h1 h2).mono ?_
  rintro e w2 ⟨rfl, rfl⟩
  go_wp2_with fail
  refine (put_yes x a n v _ hx0 hx h0 h1 h2 hv0 hv).mono ?_
  rintro e w3 ⟨rfl, rfl⟩
  go_wp2_with fail
  refine (get_yes (putI x a n v) a n _ b1.1 b1.2 h0 h1 h2).mono ?_
  rintro e w3 ⟨rfl, rfl⟩
  go_wp2_with fail
  refine (put_yes (putI x a n v) a n (getI x a n) _ b1.1 b1.2 h0 h1 h2 b2.1 b3).mono ?_
  rintro e w3 ⟨rfl, rfl⟩
  go_wp2_with fail
  refine (get_no x b m _ hno).mono ?_
  rintro e w2 ⟨rfl, rfl⟩
  go_wp2_with fail
  refine (get_no (putI x a n v) b m _ hno).mono ?_
  rintro e w2 ⟨rfl, rfl⟩
  go_wp2
  go_ret
  exact ⟨rfl, hB⟩

set_option maxHeartbeats 1000000 in
theorem walk_two (x v a n b m : Int) (w : World) (hx0 : 0 ≤ x) (hx : x ≤ 18446744073709551615) (h0 : 0 ≤ a) (h1 : 1 ≤ n) (h2 : a + n ≤ 64) (hv0 : 0 ≤ v) (hv : v ≤ onesI n) (g0 : 0 ≤ b) (g1 : 1 ≤ m) (g2 : b + m ≤ 64) :
    Calls Try.prog 4 #[.int .u64 x, .agg #[.int .i64 a, .int .i64 n, .int .i64 b, .int .i64 m], .int .u64 v] w fun e w' => e = .returned (.bool true) ∧ Below w.heap.size w w' := by
  have e1 := I_get_put x a n v hx0 hx h0 h1 h2 hv0 hv
  have e2 := I_put_back x a n v hx0 hx h0 h1 h2 hv0 hv
  have e3 := I_apart x a n v b m hx0 hx h0 h1 h2 hv0 hv g0 g1
  have b1 := putI_bd x a n v hx0 hx h0 (by omega) h2 hv0 hv
  have b2 := getI_bd x a n hx0
  have b3 := getI_ones x a n
  have hcase : (b + m ≤ a ∨ (¬ b + m ≤ a ∧ a + n ≤ b)) ∨ (¬ b + m ≤ a ∧ ¬ a + n ≤ b) := by omega
  rcases hcase with (hc | ⟨hc, hd⟩) | ⟨hc, hd⟩
  case' inl.inl => replace e3 := e3 (Or.inl hc)
  case' inl.inr => replace e3 := e3 (Or.inr hd)
  case' inr => clear e3
  all_goals
    go_enter Try.func4, Try.ntmps4
    go_wp2_with fail
    refine (lives_any _).mono ?_
    rintro e w1 ⟨rfl, hb⟩
    obtain ⟨c0, c1, c2, c3⟩ := four_cells w w1 _ _ _ _ hb
    have hB := below_box _ _ _ hb
    clear hb
    go_wp2_with fail
    refine (get_yes x a n _ hx0 hx h0 h1 h2).mono ?_
    rintro e w2 ⟨rfl, rfl⟩
    go_wp2_with fail
    refine (put_yes x a n v _ hx0 hx h0 h1 h2 hv0 hv).mono ?_
    rintro e w3 ⟨rfl, rfl⟩
    go_wp2_with fail
    refine (get_yes (putI x a n v) a n _ b1.1 b1.2 h0 h1 h2).mono ?_
    rintro e w3 ⟨rfl, rfl⟩
    go_wp2_with fail
    refine (put_yes (putI x a n v) a n (getI x a n) _ b1.1 b1.2 h0 h1 h2 b2.1 b3).mono ?_
    rintro e w3 ⟨rfl, rfl⟩
    go_wp2_with fail
    refine (get_yes x b m _ hx0 hx g0 g1 g2).mono ?_
    rintro e w2 ⟨rfl, rfl⟩
    go_wp2_with fail
    refine (get_yes (putI x a n v) b m _ b1.1 b1.2 g0 g1 g2).mono ?_
    rintro e w2 ⟨rfl, rfl⟩
    go_wp2
    go_ret
    exact ⟨rfl, hB⟩

theorem walk (x v a n b m : Int) (w : World) (hx0 : 0 ≤ x) (hx : x ≤ 18446744073709551615) (hv0 : 0 ≤ v) (ha : -9223372036854775808 ≤ a ∧ a ≤ 9223372036854775807) (hb : -9223372036854775808 ≤ b ∧ b ≤ 9223372036854775807) :
    Calls Try.prog 4 #[.int .u64 x, .agg #[.int .i64 a, .int .i64 n, .int .i64 b, .int .i64 m], .int .u64 v] w fun e w' => e = .returned (.bool true) ∧ Below w.heap.size w w' := by
  by_cases hf : 0 ≤ a ∧ 1 ≤ n ∧ a + n ≤ 64
  · obtain ⟨h0, h1, h2⟩ := hf
    by_cases hv : v ≤ onesI n
    · by_cases hg : 0 ≤ b ∧ 1 ≤ m ∧ b + m ≤ 64
      · exact walk_two x v a n b m w hx0 hx h0 h1 h2 hv0 hv hg.1 hg.2.1 hg.2.2
      · exact walk_one x v a n b m w hx0 hx h0 h1 h2 hv0 hv ⟨hb.1, hb.2, by omega⟩
    · exact walk_range x v a n b m w hx0 hx h0 h1 h2 (by omega)
  · exact walk_no x v a n b m w ⟨ha.1, ha.2, by omega⟩

set_option maxRecDepth 100000 in
theorem lifted (os : Os) (started : os.Started) (H : Type) (enc : TypeId × Value → H) :
    ReturnsInHanded {} Try.checked os 4 .any (Rows.wordsBackSpec.pre6 enc Try.prog Try.f4 Rows.wordsBackRow.domain false) (Rows.wordsBackSpec.post enc Try.prog Try.f4 false true false false) := by
  refine returnsInHanded_of_change (C := Try.checked) own started (by kernel_rfl) Try.func4
    (ChangeSpec.witness6 (enc := enc) (C := Try.checked) false ⟨#[], #[.int .u64 0, .agg #[.int .i64 0, .int .i64 0, .int .i64 0, .int .i64 0], .int .u64 0], []⟩ 8 (by kernel_rfl) (by kernel_rfl) (by kernel_rfl) (by kernel_rfl)) ?_
  intro W base args ds gs before hval0 hW hcnd _
  have hval : ∀ (j : Nat) t v, Try.f4.params[j]? = some t → args[j]? = some v → Value.okWide Try.prog W .any base t v := hval0
  have hW' := hW
  obtain ⟨p, q, hA0, hV, rfl, hfz, hnd⟩ := hW
  have hA : DataW.TrodAll enc Try.prog W 0 (fun _ => true) true Try.f4.params.toList args.toList ds p := hA0
  rw [Try.params4] at hA hval
  obtain ⟨v0, vs0, d0, ds0, p0, q0, hargs, rfl, rfl, h0, r0⟩ := trodAll_cons hA
  obtain ⟨v1, vs1, d1, ds1, p1, q1, rfl, rfl, rfl, h1, r1⟩ := trodAll_cons r0
  obtain ⟨v2, vs2, d2, ds2, p2, q2, rfl, rfl, rfl, h2, r2⟩ := trodAll_cons r1
  obtain ⟨rfl, rfl, rfl⟩ := trodAll_nil r2
  obtain rfl : args = #[v0, v1, v2] := by cases args; simp_all
  obtain ⟨rfl, rfl⟩ := trodVars_none hV
  obtain ⟨a0, rfl, rfl, rfl, w0⟩ := open_int Try.underlying22 (hval 0 22 v0 rfl rfl) h0
  obtain ⟨a2, rfl, rfl, rfl, w2⟩ := open_int Try.underlying22 (hval 2 22 v2 rfl rfl) h2
  obtain ⟨cs, rfl, hsz, _⟩ : ∃ cs, v1 = .agg cs ∧ cs.size = Try.prog.cellsOf 30 ∧ Row.okWide Try.prog W .any base 30 cs := by
    have := hval 1 30 v1 rfl rfl
    simpa [Value.okWide, Try.underlying30] using this
  rw [cells30] at hsz
  obtain ⟨l⟩ := cs
  obtain ⟨c0, c1, c2, c3, rfl⟩ := list4 l hsz
  obtain ⟨fuel, hf⟩ := h1
  obtain ⟨y0, y1, y2, y3, m, hx, hy0, hy1, hy2, hy3⟩ := trod_array4 Try.underlying30 cells3 hf
  obtain ⟨x0, e0, rfl, u0⟩ := DataW.trod_int Try.underlying3 hy0
  obtain ⟨x1, e1, rfl, u1⟩ := DataW.trod_int Try.underlying3 hy1
  obtain ⟨x2, e2, rfl, u2⟩ := DataW.trod_int Try.underlying3 hy2
  obtain ⟨x3, e3, rfl, u3⟩ := DataW.trod_int Try.underlying3 hy3
  simp at e0 e1 e2 e3
  subst e0 e1 e2 e3
  simp only [Prod.mk.injEq] at hx
  obtain ⟨rfl, rfl⟩ := hx
  clear hA0 hval0
  have bd := bounds_u64 w0
  refine (walk a0 a2 x0 x1 x2 x3 W bd.1 bd.2 (bounds_u64 w2).1 (bounds_i64 u0) (bounds_i64 u2)).mono fun e W' ⟨he, bel⟩ => ?_
  subst he
  have rdA : ∀ sp : Nat → Bool, DataW.Trod enc Try.prog W' 0 sp true 30 (.agg #[.int .i64 x0, .int .i64 x1, .int .i64 x2, .int .i64 x3]) (DataW.agg [.lit (.int .i64 x0), .lit (.int .i64 x1), .lit (.int .i64 x2), .lit (.int .i64 x3)]) [] := fun sp => ⟨2, by simp [DataW.trod, Value.cells, Try.underlying30, Try.underlying3, cells30, cells3, u0, u1, u2, u3, show List.range 4 = [0, 1, 2, 3] from rfl]⟩
  exact ⟨_, rfl, _, _, _, [], _, [], hW', trodAll_mk1 (shut_bool Try.underlying4 _), (trodAll_cons_mk (shut_int Try.underlying22 w0) (trodAll_cons_mk (rdA _) (trodAll_cons_mk (shut_int Try.underlying22 w2) trodAll_mk0))), rfl, bel.frame _, fun h => by cases h⟩

theorem over : Rows.wordsBackRow.holds Try.pinned (OpenSpec.ofChange Rows.wordsBackSpec) :=
  OpenClaim.holds_of_wide 4 Try.f4 rfl rfl rfl rfl rfl rfl rfl ⟨rfl, rfl, rfl, rfl, rfl⟩ rfl rfl rfl rfl rfl (by kernel_rfl) Try.func4 (by kernel_rfl)
    (of_decide_eq_true (by kernel_rfl)) (by unfold Func.isWrapper; first | (rw [if_pos (by decide +kernel)]; kernel_rfl) | (rw [if_neg (by decide +kernel)]; exact ⟨rfl, rfl⟩))
    (fun os started H enc _ => lifted os started H enc)

/-- ████ THE STATEMENT ████ -/
theorem proved : Rows.WordsBackSaid :=
  over
#print axioms proved
end Go.Proofs.Ytbalicoebnplmaa.wordsBack
