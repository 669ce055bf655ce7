/- Contracts of twice and sealed. -/
import Derived.Test.YtfalchacdebdpaaSealH
import Derived.Test.YtfalchacdebdpaaPlanB
namespace Go.Proofs.Ytfalchacdebdpaa
open Go.RowKit Go.Maps Go.ChangeMaps Go.Shelf

/-- No two of the first k have one status. -/
def apartTo (xs : List RecX) (k : Nat) : Prop := ∀ i, i + 1 < k → xs[i]!.num ≠ xs[i + 1]!.num
def apartDec (xs : List RecX) (k : Nat) : Decidable (apartTo xs k) :=
  decidable_of_iff (∀ i, i < k → i + 1 < k → xs[i]!.num ≠ xs[i + 1]!.num) ⟨fun h i hi => h i (by omega) hi, fun h i _ hi => h i hi⟩
def twiceP (xs : List RecX) : Bool := !@decide (apartTo xs xs.length) (apartDec xs xs.length)
theorem twiceP_no {xs : List RecX} : twiceP xs = false ↔ apartTo xs xs.length := by
  unfold twiceP
  rw [Bool.not_eq_false']
  exact ⟨fun h => @of_decide_eq_true _ (apartDec _ _) h, fun h => @decide_eq_true _ (apartDec _ _) h⟩
theorem twiceP_yes {xs : List RecX} : twiceP xs = true ↔ ¬ apartTo xs xs.length := by
  rw [← twiceP_no]; cases twiceP xs <;> simp

set_option maxHeartbeats 2000000 in
theorem twice_any {w : World} {base : Nat} {v : Value} {xs : List RecX} (h : OwnRecs w base v xs) (hn : xs.length ≤ 4) :
    Calls Try.prog 61 #[v] w fun e w' => e = .returned (.bool (twiceP xs)) ∧ ∃ m, w' = w.drewN m := by
  obtain ⟨h1, -⟩ := h
  by_cases h2 : xs.length < 2
  · have e : twiceP xs = false := by
      rw [twiceP_no]
      intro i hi; omega
    rw [e]
    obtain ⟨n, hn⟩ : ∃ n, xs.length = n := ⟨_, rfl⟩
    rw [hn] at h1 h2
    have hle : ¬ ((1 : Int) < (n : Int)) := by omega
    rcases h1.2 with ⟨rfl, h0⟩ | ⟨g, cap, cur, rfl, _⟩
    · go_enter Try.func61, Try.ntmps61
      go_wp2
      refine wp_loop_rounds 1 ?_
      rw [rounds_succ]
      go_wp2
      go_ret
      exact ⟨rfl, 0, rfl⟩
    · clear h1
      go_enter Try.func61, Try.ntmps61
      go_wp2
      refine wp_loop_rounds 1 ?_
      rw [rounds_succ]
      go_wp2
      go_ret
      exact ⟨rfl, 0, rfl⟩
  · rcases id h1.2 with ⟨rfl, h0⟩ | ⟨g, cap, cur, rfl, _⟩
    · omega
    · obtain ⟨res, hres⟩ : ∃ r, twiceP xs = r := ⟨_, rfl⟩
      have HR : Hid (twiceP xs = res) := hres
      rw [hres]
      have H : Hid (w.ownsRow base 81 3 (.slice (some ⟨g, 0, none⟩) xs.length cap) xs.length (recVals xs)) := h1
      obtain ⟨n, hln⟩ : ∃ n, xs.length = n := ⟨_, rfl⟩
      have HN : Hid (xs.length = n) := hln
      rw [hln] at h2 hn ⊢
      clear hres h1 hln
      go_enter Try.func61, Try.ntmps61
      go_wp2
      go_loopw [3] (fun i wr => ∃ k m : Nat, k + 1 ≤ n ∧ i = .int .i64 ((k : Int) + 1) ∧ wr = w.drewN m ∧ Hid (apartTo xs (k + 1))) (fun i _ => n - (intOf i).toNat)
      case atStart => exact ⟨0, 0, by omega, rfl, rfl, fun i hi => absurd hi (by omega)⟩
      case round =>
        obtain ⟨k, m, hk, rfl, rfl, ha⟩ := hrel
        by_cases hlt : k + 1 < n
        · have hk1 : (k : Int) + 1 < (n : Int) := by omega
          have hk2 : (k : Int) < (n : Int) := by omega
          have y1 := (recVals_at xs k (by have := HN.out; omega)).2.1
          have y2 := (recVals_at xs (k + 1) (by have := HN.out; omega)).2.1
          rw [← World.ownsRow.cellAt H.out (k * 3 + 1) (by have := HN.out; omega)] at y1
          rw [← World.ownsRow.cellAt H.out ((k + 1) * 3 + 1) (by have := HN.out; omega)] at y2
          have HX : Hid (apartTo xs (k + 2) ↔ apartTo xs (k + 1) ∧ xs[k]!.num ≠ xs[k + 1]!.num) := ⟨fun h => ⟨fun i hi => h i (by omega), h k (by omega)⟩, fun h i hi => by
            by_cases e : i = k
            · subst e; exact h.2
            · exact h.1 i (by omega)⟩
          have HA : Hid (∀ j, apartTo xs n → j ≤ n → apartTo xs j) := fun j h hj i hi => h i (by omega)
          obtain ⟨X, hX⟩ : ∃ X, xs[k]!.num = X := ⟨_, rfl⟩
          obtain ⟨Y, hY⟩ : ∃ Y, xs[k + 1]!.num = Y := ⟨_, rfl⟩
          rw [hX] at y1 HX
          rw [hY] at y2 HX
          clear hX hY
          obtain ⟨r, hr⟩ : ∃ r : Nat, r = k + 1 := ⟨_, rfl⟩
          have HRR : Hid (r = k + 1) := hr
          have i1 : (k : Int) + 1 = (r : Int) := by omega
          rw [← hr] at y2
          have i2 : IntKind.i64.wrap ((r : Int) - 1) = (k : Int) := by rw [IntKind.wrap_i64]; omega
          have i3 : (r : Int) < (n : Int) := by omega
          have i4 : (0 : Int) ≤ (k : Int) := by omega
          clear hr hk1
          by_cases hxy : X = Y
          · subst hxy
            go_wp2
            go_quiet (fail)
            go_wp2
            go_ret
            refine ⟨ret_bool ?_, _, World.drewN_drewN ..⟩
            rw [← HR.out, eq_comm, twiceP_yes, HN.out]
            exact fun h => (HX.out.1 (HA.out _ h (by omega))).2 rfl
          · have hb : (X == Y) = false := by simpa using hxy
            go_wp2
            go_quiet (fail)
            go_wp2
            go_roundw
            case rel => exact ⟨k + 1, _, by omega, by have := HRR.out; subst this; go_num, rfl, HX.out.2 ⟨ha.out, hxy⟩⟩
            case measure => simp [intOf]; omega
        · obtain rfl : n = k + 1 := by omega
          have hk1 : ¬ ((k : Int) + 1 < ((k + 1 : Nat) : Int)) := by omega
          go_wp2
          go_ret
          refine ⟨ret_bool ?_, _, rfl⟩
          rw [← HR.out, eq_comm, twiceP_no, HN.out]
          exact ha.out

/-- A log that is sealed. -/
structure Rec where
  at_ : Int
  num : Int
  cs : List Chg
def RecX.log (x : RecX) : Rec := ⟨x.at_, x.num, x.cs⟩
def logAt (s : Nat) : Nat := 296 + 248 * s
def chgsAt (f : Nat → Int) (s : Nat) : List Chg := chgsOf (fun i => f (logAt s + i)) (f (logAt s + 1)).toNat
/-- A log's words are no log's. -/
def slotBad (f : Nat → Int) (s : Nat) : Prop := f (logAt s) ≠ 0 ∧ (120 < f (logAt s + 1) ∨ rightP (chgsAt f s) ≠ 0)
def slotRecs (f : Nat → Int) (s : Nat) : List Rec := if f (logAt s) = 0 then [] else [⟨logAt s, f (logAt s), chgsAt f s⟩]
def recsTo (f : Nat → Int) (k : Nat) : List Rec := (List.range k).flatMap (slotRecs f)
theorem recsTo_succ (f : Nat → Int) (k : Nat) : recsTo f (k + 1) = recsTo f k ++ slotRecs f k := by simp [recsTo, List.range_succ]
theorem recsTo_len (f : Nat → Int) (k : Nat) : (recsTo f k).length ≤ k := by
  induction k with
  | zero => simp [recsTo]
  | succ k ih =>
    rw [recsTo_succ, List.length_append]
    have : (slotRecs f k).length ≤ 1 := by unfold slotRecs; split <;> simp
    omega

theorem OwnRecs.later {w w' : World} {base : Nat} {v : Value} {xs : List RecX} (h : OwnRecs w base v xs) {B : Nat} (hB : w.heap.size ≤ B) (hb : Below B w w') : OwnRecs w' base v xs :=
  ⟨own_block h.1 fun g hg => hb.block g (by have := (World.ownsRow.lt h.1 g hg).2; omega), fun x hx => (h.2 x hx).later hB hb⟩
theorem OwnRecs.snoc {w w1 : World} {base : Nat} {v v' : Value} {xs : List RecX} {x : RecX} (h : OwnRecs w base v xs) (h2 : OwnChgs w base (.slice x.a x.cs.length x.c) x.cs) (hg : w.grownBy w1 v.ownBlock) (hr : w1.ownsRow base 81 3 v' (xs.length + 1) (recVals xs ++ encR x)) : OwnRecs w1 base v' (xs ++ [x]) := by
  refine ⟨?_, fun y hy => ?_⟩
  · rw [recVals_append, List.length_append]
    have e : recVals [x] = encR x := by simp [recVals]
    rw [e]; exact hr
  · rcases List.mem_append.1 hy with hy | hy
    · exact (h.2 y hy).kept hg (own_ne (h.2 y hy) h.1 (by decide))
    · obtain rfl : y = x := by simpa using hy
      exact h2.kept hg (own_ne h2 h.1 (by decide))
theorem OwnRecs.nil (w : World) (base : Nat) : OwnRecs w base (.slice none 0 0) [] := ⟨World.ownsRow_nil _ _ _ _, fun x h => by cases h⟩

set_option maxHeartbeats 4000000 in
set_option maxRecDepth 100000 in
theorem sealed_any (a : Option Addr) (n c : Nat) (f : Nat → Int) (w : World) (h : UAt w a n f) (hc : n ≤ c) (hf : ∀ i, i < n → 0 ≤ f i ∧ f i ≤ 18446744073709551615) :
    Calls Try.prog 42 #[.slice a n c] w fun e w' => Below w.heap.size w w' ∧ ∃ v ok, e = .returned (.tuple #[v, .bool ok]) ∧
      (rightB n f = true ∧ (∀ s, s < 4 → ¬ slotBad f s) ∧ (∃ ys : List RecX, (ys.map RecX.log).Perm (recsTo f 4) ∧ ys.Pairwise (fun a b => a.num ≤ b.num) ∧ ok = !twiceP ys ∧ OwnRecs w' w.heap.size v ys) ∨
       (rightB n f = false ∨ ∃ s, s < 4 ∧ slotBad f s) ∧ ok = false) := by
  have HRT : Hid (Calls Try.prog 56 #[.slice a n c] w fun e w' => e = .returned (.bool (rightB n f)) ∧ Below w.heap.size w w') := right_any a n c f w h hc
  cases hrb : rightB n f with
  | false =>
    rw [hrb] at HRT
    clear h hf hrb
    go_enter Try.func42, Try.ntmps42
    go_wp2_with (first | (go_at_call 56; refine Calls.mono (Hid.out HRT) ?_; rintro e w1 ⟨rfl, b1⟩) | go_in)
    go_ret2
    simp
    exact b1
  | true =>
    have hn : n = 2824 := by
      unfold rightB at hrb
      simp only [Bool.and_eq_true, decide_eq_true_eq] at hrb
      exact hrb.1
    obtain ⟨b, o, rfl, hb, hcell⟩ := h.resolve_left (by omega)
    have HF : Hid (∀ i, i < n → 0 ≤ f i ∧ f i ≤ 18446744073709551615) := hf
    have HC : Hid (∀ i, i < n → w.cell? ⟨b, o + i, none⟩ = some (.int .u64 (f i))) := hcell
    have HN : Hid (n = 2824) := hn
    rw [hrb] at HRT
    obtain ⟨i0, hi, hz0, hz1, hz2⟩ := info_parts Try.info81
    clear hf hcell hrb hn
    go_enter Try.func42, Try.ntmps42
    go_wp2_with (first | (go_at_call 56; refine Calls.mono (Hid.out HRT) ?_; rintro e w1 ⟨rfl, b1⟩) | go_in)
    go_loopw [4, 14] (fun v i wr => ∃ (k : Nat) (xs : List RecX), k ≤ 4 ∧ i = .int .i64 k ∧ Hid (xs.map RecX.log = recsTo f k) ∧ Hid (OwnRecs wr w.heap.size v xs) ∧ Hid (∀ s, s < k → ¬ slotBad f s) ∧ Below w.heap.size w wr) (fun _ i _ => 4 - (intOf i).toNat)
    case atStart => exact ⟨0, [], by omega, rfl, rfl, OwnRecs.nil _ _, fun s hs => absurd hs (Nat.not_lt_zero s), b1⟩
    case round =>
      obtain ⟨k, xs, hk, rfl, hxs, hown, hbad, hnx⟩ := hrel
      by_cases hlt : k < 4
      · have hk4 : (k : Int) < 4 := by omega
        obtain ⟨A, hA⟩ : ∃ A, A = logAt k := ⟨_, rfl⟩
        have hA' : A = 296 + 248 * k := hA
        have HL : Hid (∀ w, Calls Try.prog 29 #[.int .i64 k] w fun e w' => e = .returned (.tuple #[.int .i64 A, .int .i64 0]) ∧ w' = w) := fun w => by
          have := log_yes k w (by omega) hk4
          have e : (296 + 248 * (k : Int)) = (A : Int) := by omega
          rw [e] at this; exact this
        have hAn : (A : Int) < (n : Int) := by have := HN.out; omega
        have HA : Hid (A = logAt k) := hA
        have HA3 : Hid (248 ≤ n - A) := by show 248 ≤ n - A; have := HN.out; omega
        have y0 := (hnx.cell (p := ⟨b, o + A, none⟩) hb).trans (HC.out A (by have := HN.out; omega))
        have i1 : IntKind.i64.wrap (A : Int) = (A : Int) := by rw [IntKind.wrap_i64]; have := HN.out; omega
        have hAn2 : (A : Int) ≤ (n : Int) := by omega
        have hAc : (A : Int) ≤ (c : Int) := by omega
        by_cases hz : f A = 0
        · rw [hz] at y0
          have HS : Hid (slotRecs f k = []) := by show slotRecs f k = []; unfold slotRecs; rw [← hA, if_pos hz]
          have HB : Hid (¬ slotBad f k) := fun e => e.1 (by rw [← hA]; exact hz)
          clear hA hA' hz
          go_wp2_with (first | (go_at_call 29; refine (HL.out _).mono ?_; rintro e w' ⟨rfl, hw⟩; obtain rfl := hw.symm) | go_in)
          go_roundw
          case rel => exact ⟨k + 1, xs, by omega, by go_num, (by show xs.map RecX.log = recsTo f (k + 1); rw [recsTo_succ, HS.out, List.append_nil]; exact hxs.out), hown, fun s hs => by
            by_cases e : s = k
            · subst e; exact HB.out
            · exact hbad.out s (by omega), hnx⟩
          case measure => simp [intOf]; omega
        · obtain ⟨N, hN⟩ : ∃ N, f A = N := ⟨_, rfl⟩
          rw [hN] at y0 hz
          have hz0' : (N == 0) = false := by simpa using hz
          have hw248 : ∀ i, i < 248 → 0 ≤ f (A + i) ∧ f (A + i) ≤ 18446744073709551615 := fun i hi => HF.out (A + i) (by have := HN.out; omega)
          have hwc : ∀ (w2 : World), Below w.heap.size w w2 → ∀ i, i < 248 → w2.cell? ⟨b, o + A + i, none⟩ = some (.int .u64 (f (A + i))) := fun w2 h2 i hi => by
            rw [Nat.add_assoc]; exact (h2.cell (p := ⟨b, o + (A + i), none⟩) hb).trans (HC.out (A + i) (by have := HN.out; omega))
          have hbl : b < wr.heap.size := Nat.lt_of_lt_of_le hb hnx.size
          by_cases h120 : 120 < f (A + 1)
          · have HB : Hid (∃ s, s < 4 ∧ slotBad f s) := ⟨k, hlt, by rw [← hA, hN]; exact hz, .inl (by rw [← hA]; exact h120)⟩
            have HW : Hid (∀ n c, 248 ≤ n → Calls Try.prog 57 #[.slice (some ⟨b, o + A, none⟩) n c] wr fun e w' => e = .returned (.tuple #[.slice none 0 0, .bool false]) ∧ w' = wr) := fun n c hn => written_long b (o + A) n c (f (A + 1)) wr hn h120 (hw248 1 (by omega)).2 (hwc wr hnx 1 (by omega))
            clear hA hA' hwc hw248 h120 hN
            go_wp2_with (first | (go_at_call 29; refine (HL.out _).mono ?_; rintro e w' ⟨rfl, hw⟩; obtain rfl := hw.symm) | (go_at_call 57; refine (HW.out _ _ HA3.out).mono ?_; rintro e w' ⟨rfl, hw⟩; obtain rfl := hw.symm) | go_in)
            go_ret2
            exact ⟨hnx, _, _, rfl, .inr ⟨.inr HB.out, rfl⟩⟩
          · obtain ⟨m, hm⟩ : ∃ m : Nat, f (A + 1) = (m : Int) := ⟨(f (A + 1)).toNat, by have := hw248 1 (by omega); omega⟩
            have hcs : chgsAt f k = chgsOf (fun i => f (A + i)) m := by unfold chgsAt; rw [← hA, hm]; rfl
            have HW : Hid (∀ n c, 248 ≤ n → Calls Try.prog 57 #[.slice (some ⟨b, o + A, none⟩) n c] wr fun e w' => ∃ v, e = .returned (.tuple #[v, .bool (decide (rightP (chgsAt f k) = 0))]) ∧ OwnChgs w' wr.heap.size v (chgsAt f k) ∧ Below wr.heap.size wr w') := fun n c hn => by
              rw [hcs]
              exact written_short b (o + A) n c m (fun i => f (A + i)) wr hbl hn hw248 (hwc wr hnx) hm (by omega)
            by_cases hr : rightP (chgsAt f k) = 0
            · have HB : Hid (¬ slotBad f k) := fun e => by
                rcases e.2 with e2 | e2
                · rw [← hA] at e2; exact h120 e2
                · exact e2 hr
              have HS : Hid (slotRecs f k = [⟨A, N, chgsAt f k⟩]) := by show slotRecs f k = _; unfold slotRecs; rw [← hA, hN, if_neg hz]
              obtain ⟨C, hC⟩ : ∃ C, chgsAt f k = C := ⟨_, rfl⟩
              rw [hC] at HW HS hr
              rw [hr, decide_eq_true (rfl : (0 : Int) = 0)] at HW
              clear hA hA' hwc hw248 h120 hN hm hcs hr hC
              go_wp2_with (first
                | (go_at_call 29; refine (HL.out _).mono ?_; rintro e w' ⟨rfl, hw⟩; obtain rfl := hw.symm)
                | (go_at_call 57; refine (HW.out _ _ HA3.out).mono ?_; rintro e w2 ⟨v2, rfl, own2, b2⟩; obtain ⟨a2, c2, rfl, -, -, -⟩ := own2.at; have hrow := (hown.out.later (Nat.le_refl _) b2).1)
                | (at_builtin; refine wpList_append_own _ rfl _ _ 77 rfl w.heap.size 81 i0 (.agg #[.int .i64 0, .int .u64 0, .slice none 0 0]) 3 40 Try.underlying77 hi hz0 hz1 hz2 rfl (by decide) _ _ _ rfl (World.ownsRow.alloc hrow _) ⟨_, 0, none⟩ 1 1 [.int .i64 A, .int .u64 N, .slice a2 C.length c2] rfl rfl ?c1 ?c2 ?c3 ?c4 ?c5 ?_)
                | go_in)
              case c1 => exact three_cells (by simp)
              case c2 => intro u hu; simp at hu; rcases hu with rfl | rfl | rfl <;> rfl
              case c3 => unfold maxLen; have := recsTo_len f k; rw [← hxs.out, List.length_map] at this; omega
              case c4 => have := recsTo_len f k; rw [← hxs.out, List.length_map] at this; omega
              case c5 => have := hnx.size; have := b2.size; simp; omega
              intro v' w3 hown' hgrow _
              have hnx3 : Below w.heap.size w w3 := (((hnx.trans (b2.mono hnx.size)).alloc (by have := hnx.size; have := b2.size; omega) _).grown hgrow (by have := hnx.size; have := b2.size; simp; omega) (fun j h => (World.ownsRow.lt hrow j h).1))
              have hown3 : Hid (OwnRecs w3 w.heap.size v' (xs ++ [⟨A, N, a2, c2, C⟩])) :=
                OwnRecs.snoc (w := w2.alloc (.cells #[.int .i64 A, .int .u64 N, .slice a2 C.length c2] 81)) ((hown.out.later (Nat.le_refl _) b2).later (Nat.le_refl _) ((Below.refl _ _).alloc (Nat.le_refl _) _)) (OwnChgs.later (ownsRow_base_a own2 hnx.size) (Nat.le_refl _) ((Below.refl _ _).alloc (Nat.le_refl _) _)) hgrow hown'
              clear hgrow hown' hrow own2
              go_wp2
              go_roundw
              case rel => exact ⟨k + 1, xs ++ [⟨A, N, a2, c2, C⟩], by omega, by go_num, (by show (xs ++ _).map RecX.log = recsTo f (k + 1); rw [recsTo_succ, HS.out, List.map_append, hxs.out]; rfl), hown3, fun s hs => by
                by_cases e : s = k
                · subst e; exact HB.out
                · exact hbad.out s (by omega), hnx3⟩
              case measure => simp [intOf]; omega
            · have HB : Hid (∃ s, s < 4 ∧ slotBad f s) := ⟨k, hlt, by rw [← hA, hN]; exact hz, .inr hr⟩
              have hd : decide (rightP (chgsAt f k) = 0) = false := decide_eq_false hr
              rw [hd] at HW
              obtain ⟨C, hC⟩ : ∃ C, chgsAt f k = C := ⟨_, rfl⟩
              rw [hC] at HW
              clear hA hA' hwc hw248 h120 hN hm hcs hr hC hd
              go_wp2_with (first | (go_at_call 29; refine (HL.out _).mono ?_; rintro e w' ⟨rfl, hw⟩; obtain rfl := hw.symm) | (go_at_call 57; refine (HW.out _ _ HA3.out).mono ?_; rintro e w2 ⟨v2, rfl, own2, b2⟩) | go_in)
              go_ret2
              exact ⟨hnx.trans (b2.mono hnx.size), _, _, rfl, .inr ⟨.inr HB.out, rfl⟩⟩
      · obtain rfl : k = 4 := by omega
        have hx4 : xs.length ≤ 4 := by
          have := recsTo_len f 4
          rw [← hxs.out, List.length_map] at this; exact this
        have HSO : Hid (Calls Try.prog 58 #[u4, .func (.func 59) #[] #[]] wr fun e w' => e = .returned (.tuple #[]) ∧ ∃ ys : List RecX, ys.Perm xs ∧ ys.Pairwise (fun a b => a.num ≤ b.num) ∧ OwnRecs w' w.heap.size u4 ys ∧ Below w.heap.size wr w') := sort_recs hown.out hnx.size hx4
        go_wp2_with (first | (go_at_call 58; refine (Hid.out HSO).mono ?_; rintro e w2 ⟨rfl, ys, hp, hs, own2, b2⟩) | fail)
        have hy4 : ys.length ≤ 4 := by rw [hp.length_eq]; exact hx4
        have HTW : Hid (Calls Try.prog 61 #[u4] w2 fun e w' => e = .returned (.bool (twiceP ys)) ∧ ∃ m, w' = w2.drewN m) := twice_any own2 hy4
        have HP : Hid (ys.Perm xs) := hp
        have HSD : Hid (ys.Pairwise (fun a b => a.num ≤ b.num)) := hs
        have HO2 : Hid (OwnRecs w2 w.heap.size u4 ys) := own2
        clear hp hs own2
        obtain ⟨tw, htw⟩ : ∃ t, twiceP ys = t := ⟨_, rfl⟩
        rw [htw] at HTW
        have HTE : Hid (twiceP ys = tw) := htw
        clear htw
        go_wp2_with (first | (go_at_call 61; refine (Hid.out HTW).mono ?_; rintro e w3 ⟨rfl, m, rfl⟩) | go_in)
        go_ret2
        refine ⟨below_drewN (hnx.trans b2) _, ?_⟩
        refine ⟨u4, !tw, rfl, .inl ⟨trivial, hbad.out, ys, ?_, HSD.out, by rw [HTE.out], ?_⟩⟩
        · rw [← hxs.out]; exact HP.out.map _
        · exact ⟨own_block HO2.out.1 fun _ _ => rfl, fun x hx => own_block (HO2.out.2 x hx) fun _ _ => rfl⟩

end Go.Proofs.Ytfalchacdebdpaa
