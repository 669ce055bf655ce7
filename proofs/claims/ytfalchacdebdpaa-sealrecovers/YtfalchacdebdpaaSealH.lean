/- Contracts of the sorting of logs by their statuses, and of twice. -/
import Derived.Test.YtfalchacdebdpaaSealG
namespace Go.Proofs.Ytfalchacdebdpaa
open Go.RowKit Go.Maps Go.ChangeMaps Go.Shelf Go.Lib Go.Sort

theorem Try.info81 : (Try.prog.info? 81).map (fun i => (i.zero, i.size, i.bytes)) = some (some (.agg #[.int .i64 0, .int .u64 0, .slice none 0 0]), 3, 40) := by kernel_rfl

/-- A log that is sealed, and where its changes lie. -/
abbrev RecX := Int × Int × Option Addr × Nat × List Chg
def RecX.at_ (x : RecX) : Int := x.1
def RecX.num (x : RecX) : Int := x.2.1
def RecX.a (x : RecX) : Option Addr := x.2.2.1
def RecX.c (x : RecX) : Nat := x.2.2.2.1
def RecX.cs (x : RecX) : List Chg := x.2.2.2.2
def encR (x : RecX) : List Value := [.int .i64 x.at_, .int .u64 x.num, .slice x.a x.cs.length x.c]
def recVals (xs : List RecX) : List Value := xs.flatMap encR
theorem recVals_len (xs : List RecX) : (recVals xs).length = xs.length * 3 := by
  induction xs with
  | nil => rfl
  | cons x xs ih => simp only [recVals, List.flatMap_cons, List.length_append, encR, List.length_cons, List.length_nil] at *; omega
theorem recVals_append (a b : List RecX) : recVals (a ++ b) = recVals a ++ recVals b := by simp [recVals]
theorem recVals_at (xs : List RecX) (i : Nat) (hi : i < xs.length) : (recVals xs)[i * 3]? = some (.int .i64 xs[i]!.at_) ∧ (recVals xs)[i * 3 + 1]? = some (.int .u64 xs[i]!.num) ∧ (recVals xs)[i * 3 + 2]? = some (.slice xs[i]!.a xs[i]!.cs.length xs[i]!.c) := by
  induction xs generalizing i with
  | nil => simp at hi
  | cons x xs ih =>
    have e : recVals (x :: xs) = encR x ++ recVals xs := rfl
    cases i with
    | zero => rw [e]; simp [encR]
    | succ i =>
      have hl : (encR x).length = 3 := rfl
      have h := ih i (by simpa using hi)
      rw [e, List.getElem?_append_right (by rw [hl]; omega), List.getElem?_append_right (by rw [hl]; omega), List.getElem?_append_right (by rw [hl]; omega), hl]
      have e1 : (i + 1) * 3 - 3 = i * 3 := by omega
      have e2 : (i + 1) * 3 + 1 - 3 = i * 3 + 1 := by omega
      have e3 : (i + 1) * 3 + 2 - 3 = i * 3 + 2 := by omega
      rw [e1, e2, e3]
      simpa using h

/-- A row of logs of one's own, with their changes. -/
def OwnRecs (w : World) (base : Nat) (v : Value) (xs : List RecX) : Prop := w.ownsRow base 81 3 v xs.length (recVals xs) ∧ ∀ x ∈ xs, OwnChgs w base (.slice x.a x.cs.length x.c) x.cs

theorem isNaN_any (v : Int) (w : World) : Calls Try.prog 73 #[.int .u64 v] w fun e w' => e = .returned (.bool false) ∧ w' = w := by
  have q : (v != v) = false := by simp
  go_enter Try.func73, Try.ntmps73
  go_wp2
  go_ret
  exact ⟨rfl, rfl⟩
def cmpI (x y : Int) : Int := if x < y then -1 else if y < x then 1 else 0
theorem compare_any (x y : Int) (w : World) : Calls Try.prog 60 #[.int .u64 x, .int .u64 y] w fun e w' => e = .returned (.int .i64 (cmpI x y)) ∧ w' = w := by
  have hn := isNaN_any
  by_cases h1 : x < y
  · have e : cmpI x y = -1 := by simp [cmpI, h1]
    rw [e]
    go_enter Try.func60, Try.ntmps60
    go_wp2_with (first | (go_at_call 73; refine (hn _ _).mono ?_; rintro e w' ⟨rfl, hw⟩; obtain rfl := hw.symm) | go_in)
    go_ret
    exact ⟨rfl, rfl⟩
  · by_cases h2 : y < x
    · have e : cmpI x y = 1 := by simp [cmpI, h1, h2]
      rw [e]
      go_enter Try.func60, Try.ntmps60
      go_wp2_with (first | (go_at_call 73; refine (hn _ _).mono ?_; rintro e w' ⟨rfl, hw⟩; obtain rfl := hw.symm) | go_in)
      go_ret
      exact ⟨rfl, rfl⟩
    · have e : cmpI x y = 0 := by simp [cmpI, h1, h2]
      rw [e]
      go_enter Try.func60, Try.ntmps60
      go_wp2_with (first | (go_at_call 73; refine (hn _ _).mono ?_; rintro e w' ⟨rfl, hw⟩; obtain rfl := hw.symm) | go_in)
      go_ret
      exact ⟨rfl, rfl⟩

theorem cmp_any (x y : RecX) (w : World) : Calls Try.prog 59 #[.agg (encR x).toArray, .agg (encR y).toArray] w fun e w' => e = .returned (.int .i64 (cmpI x.num y.num)) ∧ ∃ q os, w' = grow (w.drewN q) os := by
  have hc := compare_any
  obtain ⟨xa, xn, xp, xc, xs⟩ := x
  obtain ⟨ya, yn, yp, yc, ys⟩ := y
  unfold encR
  simp only [RecX.at_, RecX.num, RecX.a, RecX.c, RecX.cs]
  obtain ⟨lx, hlx⟩ : ∃ n, xs.length = n := ⟨_, rfl⟩
  obtain ⟨ly, hly⟩ : ∃ n, ys.length = n := ⟨_, rfl⟩
  rw [hlx, hly]
  go_enter Try.func59, Try.ntmps59
  go_wp2_with (first | (go_at_call 60; refine (hc _ _ _).mono ?_; rintro e w' ⟨rfl, hw⟩; obtain rfl := hw.symm) | go_in)
  go_ret
  refine ⟨rfl, 0, #[.cells #[.int .i64 xa, .int .u64 xn, .slice xp lx xc] 81] ++ #[.cells #[.int .i64 ya, .int .u64 yn, .slice yp ly yc] 81], ?_⟩
  rw [alloc_eq_grow, alloc_eq_grow, grow_grow]
  rfl

theorem insertion_none (p : Option Addr) (cap : Nat) (fv : Value) (w : World) :
    Calls Try.prog 77 #[.slice p 0 cap, .int .i64 0, .int .i64 0, fv] w fun e w' => e = .returned (.tuple #[]) ∧ w' = w := by
  go_enter Try.func77, Try.ntmps77
  go_wp2
  refine wp_loop_rounds 1 ?_
  rw [rounds_succ]
  go_wp2
  go_end0
  exact ⟨rfl, rfl⟩
theorem pdq_none (p : Option Addr) (cap : Nat) (lim : Int) (fv : Value) (w : World) :
    Calls Try.prog 71 #[.slice p 0 cap, .int .i64 0, .int .i64 0, .int .i64 lim, fv] w fun e w' => e = .returned (.tuple #[]) ∧ w' = w := by
  have hi := insertion_none p cap fv
  go_enter Try.func71, Try.ntmps71
  go_wp2
  refine wp_loop_rounds 1 ?_
  rw [rounds_succ]
  go_wp2_with (first | (go_at_call 77; refine (hi _).mono ?_; rintro e w' ⟨rfl, hw⟩; obtain rfl := hw.symm) | go_in)
  (try simp only [Exit.inBlock, Exit.then]); refine bodyPost_ret (results_none rfl _ _ _) rfl ?_
  exact ⟨rfl, rfl⟩
theorem sortFunc_none (p : Option Addr) (cap : Nat) (fv : Value) (w : World) :
    Calls Try.prog 58 #[.slice p 0 cap, fv] w fun e w' => e = .returned (.tuple #[]) ∧ w' = w := by
  have hp := fun lim => pdq_none p cap lim fv
  have hl : ∀ W, Calls Try.prog 72 #[.int .u64 0] W fun e w' => e = .returned (.int .i64 (Lib.bitLen 0 : Nat)) ∧ w' = W := fun W => Any.bits_Len Try.bitsLen 0 W (by omega) (by omega)
  go_enter Try.func58, Try.ntmps58
  go_wp2_with (first | (go_at_call 72; refine (hl _).mono ?_; rintro e w' ⟨rfl, hw⟩; obtain rfl := hw.symm) | (go_at_call 71; refine (hp _ _).mono ?_; rintro e w' ⟨rfl, hw⟩; obtain rfl := hw.symm) | go_in)
  go_end0
  exact ⟨rfl, rfl⟩

theorem flat_at (xs : List RecX) (j : Nat) (hj : j < xs.length * 3) : (recVals xs)[j]? = some ((encR xs[j / 3]!)[j % 3]!) := by
  have h := recVals_at xs (j / 3) (by omega)
  rcases (show j % 3 = 0 ∨ j % 3 = 1 ∨ j % 3 = 2 by omega) with e | e | e
  · have e2 : j / 3 * 3 = j := by omega
    rw [e2] at h; rw [h.1, e]; rfl
  · have e2 : j / 3 * 3 + 1 = j := by omega
    rw [e2] at h; rw [h.2.1, e]; rfl
  · have e2 : j / 3 * 3 + 2 = j := by omega
    rw [e2] at h; rw [h.2.2, e]; rfl
theorem flat_recVals (d : Array RecX) : flatK encR 3 d = (recVals d.toList).toArray := by
  apply Array.ext (by simp [recVals_len])
  intro i h1 h2
  have h3 : i < d.toList.length * 3 := by simpa using h1
  have h4 := flat_at d.toList i h3
  have h5 := get_flatK encR 3 d i (by simpa using h1)
  rw [getElem!_pos _ i h1] at h5
  rw [h5]
  have h6 : (recVals d.toList).toArray[i] = (recVals d.toList)[i]'(by simpa using h2) := by simp
  rw [h6]
  rw [List.getElem?_eq_getElem (by simpa using h2)] at h4
  have h7 := Option.some.inj h4
  rw [h7]
  have hi : i / 3 < d.size := by simp at h3; omega
  rw [getElem!_pos d _ hi, getElem!_pos d.toList _ (by simpa using hi)]
  simp

/-- The sort's row, at elements of s cells. -/
theorem ownsRow_putFlat {w : World} {base : Nat} {e : TypeId} {g n cap q s : Nat} {xs ys : List Value} (h : w.ownsRow base e s (.slice (some ⟨g, 0, none⟩) n cap) n xs) (hy : ys.length = n * s) :
    (putRow id (Sort.ahead w q) g 0 ys.toArray).ownsRow base e s (.slice (some ⟨g, 0, none⟩) n cap) n ys := by
  rcases h.2 with ⟨e0, _⟩ | ⟨g', cap', cur, e0, hb, hg, hn, hm, hs, ht⟩
  · cases e0
  · injection e0 with e1 _ e3
    injection e1 with e1
    injection e1 with e1
    subst e1; subst e3
    have hle : n * s ≤ cap * s := Nat.mul_le_mul_right _ hn
    refine ⟨hy, .inr ⟨g, cap, putCells id 0 ys.toArray cur, rfl, hb, ?_, hn, hm, by simpa [putCells] using hs, ?_⟩⟩
    · simp [putRow, mapBlock, Sort.ahead, Array.getElem?_modify, hg, onCells]
    · apply List.ext_getElem?
      intro j
      rw [List.getElem?_take, Array.getElem?_toList]
      by_cases hj : j < n * s
      · have hjc : j < cur.size := by omega
        simp only [if_pos hj, putCells, Array.getElem?_mapIdx, Array.getElem?_eq_getElem hjc, Option.map_some]
        rw [if_pos (by simp; omega), List.getElem?_eq_getElem (by omega)]
        simp [getElem!_pos, show j < ys.length by omega]
      · simp only [if_neg hj]
        rw [List.getElem?_eq_none (by omega)]

theorem put_block {w : World} {g q k : Nat} {d : Array Value} (h : k ≠ g) : (putRow id (Sort.ahead w q) g 0 d).heap[k]? = w.heap[k]? := by
  simp [putRow, mapBlock, Sort.ahead, Array.getElem?_modify, show g ≠ k from fun e => h e.symm]

theorem lt_cmp (x y : RecX) : ltOf (fun x y : RecX => cmpI x.num y.num) x y = decide (x.num < y.num) := by
  show decide (cmpI x.num y.num < 0) = _
  rw [decide_eq_decide]
  unfold cmpI
  by_cases h : x.num < y.num
  · rw [if_pos h]; exact ⟨fun _ => h, fun _ => by decide⟩
  · rw [if_neg h]
    by_cases h2 : y.num < x.num
    · rw [if_pos h2]; omega
    · rw [if_neg h2]; omega
theorem swo_cmp : SWO (ltOf fun x y : RecX => cmpI x.num y.num) where
  irrefl := fun x => by rw [lt_cmp]; simp
  trans := fun x y z h1 h2 => by rw [lt_cmp] at *; simp only [decide_eq_true_eq] at *; omega
  ntrans := fun x y z h1 h2 => by rw [lt_cmp] at *; simp only [decide_eq_false_iff_not] at *; omega

theorem eg59 : ∀ args w, (callFunc 59 args).run Try.prog w = .ok (.enter 59 args) w := enters_of Try.func59 (by kernel_rfl) rfl

theorem sort_recs {w : World} {base : Nat} {v : Value} {xs : List RecX} (h : OwnRecs w base v xs) (hB : base ≤ w.heap.size) (hn : xs.length ≤ 4) :
    Calls Try.prog 58 #[v, .func (.func 59) #[] #[]] w fun e w' => e = .returned (.tuple #[]) ∧ ∃ ys : List RecX, ys.Perm xs ∧ ys.Pairwise (fun a b => a.num ≤ b.num) ∧ OwnRecs w' base v ys ∧ Below base w w' := by
  obtain ⟨h1, h2⟩ := h
  rcases id h1.2 with ⟨rfl, h0⟩ | ⟨g, cap, cur, rfl, _⟩
  · have hx : xs = [] := List.length_eq_zero_iff.1 (by omega)
    subst hx
    refine (sortFunc_none none 0 _ w).mono ?_
    rintro e w' ⟨rfl, rfl⟩
    exact ⟨rfl, [], List.Perm.refl _, List.Pairwise.nil, ⟨h1, h2⟩, Below.refl _ _⟩
  · have hg := World.ownsRow.lt h1 g rfl
    have hH : HoldsK encR 3 w g 0 xs.toArray := by
      intro j hj
      have hj' : j < xs.length * 3 := by simpa using hj
      refine ⟨?_, by rw [Nat.zero_add]; exact World.ownsRow.frozenAt h1 j⟩
      rw [Nat.zero_add, World.ownsRow.cellAt h1 j (by omega), flat_at xs j hj', get_flatK encR 3 _ j (by simpa using hj')]
      simp
    have hs := AnyQ.slices_SortFunc_small_sorted Try.sortF 3 (fun _ => Try.isAgg81 _) (fun _ => Try.sizeOf81 _) encR (fun _ => rfl) (fun x v hv => by simp [encR] at hv; rcases hv with rfl | rfl | rfl <;> rfl) (fun x y : RecX => cmpI x.num y.num) 59 #[] swo_cmp g 0 cap xs.toArray w eg59
      (fun m os dk hs x y => cmp_any x y _) hH hg.2 (by simp; omega) (fun n W hn => (Any.bits_Len Try.bitsLen n W (by omega) (by omega)).mono fun e w' h => ⟨⟨_, h.1⟩, h.2⟩)
    have hs' := hs
    simp only [List.size_toArray] at hs'
    refine Calls.mono hs' ?_
    rintro e w' ⟨rfl, d', m, os, hp, hso, rfl⟩
    have hsz : d'.size = xs.length := by simpa using hp.1
    have hperm : d'.toList.Perm xs := by
      have := hp.2.2
      have e1 : d'.extract 0 xs.length = d' := by rw [← hsz]; simp
      have e2 : xs.toArray.extract 0 xs.length = xs.toArray := by
        have : xs.length = xs.toArray.size := by simp
        rw [this]; simp
      rw [e1, e2] at this
      simpa using this
    have hl : (recVals d'.toList).length = xs.length * 3 := by rw [recVals_len]; simp [hsz]
    have r1 := ownsRow_putFlat (q := m) (ys := recVals d'.toList) h1 hl
    have hb : Below base w (sortWorldK encR 3 w g 0 m d' os) := by
      unfold sortWorldK putRowK
      exact below_grow (Lib.below_putRow (Below.refl _ _) hg.1) (by simpa [putRow, mapBlock, Sort.ahead] using hB) os
    have hblk : ∀ k, k < w.heap.size → k ≠ g → (sortWorldK encR 3 w g 0 m d' os).heap[k]? = w.heap[k]? := by
      intro k hk hkg
      unfold sortWorldK putRowK
      simp only [grow]
      rw [Array.getElem?_append_left (by simpa [putRow, mapBlock, Sort.ahead] using hk)]
      exact put_block hkg
    refine ⟨rfl, d'.toList, hperm, ?_, ⟨?_, ?_⟩, hb⟩
    · refine List.pairwise_iff_getElem.2 fun i j hi hj hij => ?_
      have := hso i j (Nat.zero_le _) hij (by simp at hj; omega)
      simp only [Array.length_toList] at hi hj
      rw [lt_cmp, getElem!_pos _ i hi, getElem!_pos _ j hj] at this
      have h2 := of_decide_eq_false this
      simp only [Array.getElem_toList]
      omega
    · have e : d'.toList.length = xs.length := by simp [hsz]
      rw [e]
      refine own_block (w := putRow id (Sort.ahead w m) g 0 (recVals d'.toList).toArray) r1 ?_
      intro k hk
      unfold sortWorldK putRowK
      rw [flat_recVals]
      simp only [grow]
      rw [Array.getElem?_append_left ((World.ownsRow.lt r1 k hk).2)]
    · intro x hx
      have hx' := hperm.mem_iff.1 hx
      have ho := h2 x hx'
      refine own_block ho fun k hk => ?_
      have hne := own_ne ho h1 (by decide)
      rcases hne with hne | hne
      · rw [hne] at hk; cases hk
      · refine hblk k (World.ownsRow.lt ho k hk).2 fun e => hne ?_
        rw [hk, e]; rfl

end Go.Proofs.Ytfalchacdebdpaa
