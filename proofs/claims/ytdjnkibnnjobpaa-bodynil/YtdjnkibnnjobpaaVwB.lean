/- Contracts of the view's small calls: is it there, a word, a word that is written, a row of words. -/
import Derived.Test.YtdjnkibnnjobpaaVwA
import Derived.Laws.MakeOwn
namespace Go.Proofs.Ytdjnkibnnjobpaa
open Go.RowKit Go.Maps Go.ChangeMaps

theorem void_any (V : VLay) (S : Vw) (N : Nat) (w : World) (h : ViewIs w V S N) :
    Calls Try.prog 44 #[.pointer (some ⟨V.vb, 0, none⟩)] w fun e w' => e = .returned (.bool false) ∧ w' = w := by
  have c0 := h.c0
  clear h
  go_enter Try.func44, Try.ntmps44
  go_wp2
  go_ret
  exact ⟨rfl, rfl⟩

theorem vread_any (V : VLay) (S : Vw) (N : Nat) (L : Lay) (M : Mem) (k : Int) (w : World) (h : ViewIs w V S N) (hm : MemIs w L M) (hv : V.mb = L.mb) (hk : (Lit.int .i64 k).wf = true) :
    Calls Try.prog 57 #[.pointer (some ⟨V.vb, 0, none⟩), .int .i64 k] w fun e w' => e = .returned (.int .u64 (S.word M k)) ∧ w' = w := by
  have c0 := h.c0
  have c1 := h.c1
  rw [hv] at c0
  cases hl : S.own k with
  | none =>
    have hr : S.word M k = M.read k := by simp [Vw.word, hl]
    rw [hr]
    go_enter Try.func57, Try.ntmps57
    go_wp2_with (first
      | (go_at_call 44; refine (void_any V S N _ h).mono ?_; rintro e w' ⟨rfl, hw⟩; obtain rfl := hw.symm)
      | (at_lookup; refine wpList_look2 _ rfl _ _ rfl V.ob N S.own k 0 false rfl h.own rfl hk (by rw [hl]; rfl) (by rw [hl]; rfl) ?_)
      | (go_at_call 56; refine (read_any L M k _ hm hk).mono ?_; rintro e w' ⟨rfl, hw⟩; obtain rfl := hw.symm)
      | go_in)
    go_ret
    exact ⟨rfl, rfl⟩
  | some v =>
    have hr : S.word M k = v := by simp [Vw.word, hl]
    rw [hr]
    go_enter Try.func57, Try.ntmps57
    go_wp2_with (first
      | (go_at_call 44; refine (void_any V S N _ h).mono ?_; rintro e w' ⟨rfl, hw⟩; obtain rfl := hw.symm)
      | (at_lookup; refine wpList_look2 _ rfl _ _ rfl V.ob N S.own k v true rfl h.own rfl hk (by rw [hl]; rfl) (by rw [hl]; rfl) ?_)
      | go_in)
    go_ret
    exact ⟨rfl, rfl⟩

theorem upd_in {f : Int → Option Int} (h : ∀ k v, f k = some v → openI k) {x : Int} (hx : openI x) (c : Int) : ∀ k v, upd f x (some c) k = some v → openI k := by
  intro k v hk
  by_cases e : k = x
  · subst e; exact hx
  · rw [upd_other _ _ e] at hk; exact h k v hk

theorem vwrite_no (V : VLay) (S : Vw) (N : Nat) (k v : Int) (w : World) (h : ViewIs w V S N) (hk : openB k = false) :
    Calls Try.prog 61 #[.pointer (some ⟨V.vb, 0, none⟩), .int .i64 k, .int .u64 v] w fun e w' => e = .returned (.int .i64 1) ∧ w' = w := by
  have H : Hid (Calls Try.prog 70 #[.int .i64 k] w fun e w' => e = .returned (.bool false) ∧ w' = w) := by
    have := open_any k w
    rw [hk] at this
    exact this
  go_enter Try.func61, Try.ntmps61
  go_wp2_with (first
    | (go_at_call 44; refine (void_any V S N _ h).mono ?_; rintro e w' ⟨rfl, hw⟩; obtain rfl := hw.symm)
    | (go_at_call 70; refine Calls.mono (Hid.out H) ?_; rintro e w' ⟨rfl, hw⟩; obtain rfl := hw.symm)
    | go_in)
  go_ret
  exact ⟨rfl, rfl⟩

theorem vwrite_yes (V : VLay) (S : Vw) (N : Nat) (k v : Int) (w : World) (h : ViewIs w V S N) (hk : openB k = true) (hN : N < 1000000000) (hwk : (Lit.int .i64 k).wf = true) (hwv : (Lit.int .u64 v).wf = true) :
    Calls Try.prog 61 #[.pointer (some ⟨V.vb, 0, none⟩), .int .i64 k, .int .u64 v] w fun e w' => e = .returned (.int .i64 0) ∧ ViewIs w' V { S with own := upd S.own k (some v) } (N + 1) ∧ Only [V.ob] w w' := by
  have H : Hid (Calls Try.prog 70 #[.int .i64 k] w fun e w' => e = .returned (.bool true) ∧ w' = w) := by
    have := open_any k w
    rw [hk] at this
    exact this
  have c1 := h.c1
  have ho := (openB_iff k).1 hk
  go_enter Try.func61, Try.ntmps61
  go_wp2_with (first
    | (go_at_call 44; refine (void_any V S N _ h).mono ?_; rintro e w' ⟨rfl, hw⟩; obtain rfl := hw.symm)
    | (go_at_call 70; refine Calls.mono (Hid.out H) ?_; rintro e w' ⟨rfl, hw⟩; obtain rfl := hw.symm)
    | (at_mapUpdate; refine wpList_put _ rfl _ _ _ rfl V.ob N S.own k v rfl h.own (by unfold maxLen; omega) rfl rfl hwk hwv ?_; intro w2 hm2 ht2)
    | go_in)
  go_ret
  have hO : Only [V.ob] w w2 := (Only.refl _ _).turned ht2 (by simp)
  exact ⟨rfl, h.newOwn hm2 (Nat.le_refl _) hO (upd_in h.inside ho v), hO⟩

/-- Words at a place. -/
def Words (w : World) (b o n : Nat) (f : Nat → Int) : Prop := ∀ i, i < n → w.cell? ⟨b, o + i, none⟩ = some (.int .u64 (f i))

/-- What is written behind a row of k words from a on. -/
def rowOwn (own : Int → Option Int) (a : Int) (f : Nat → Int) (k : Nat) : Int → Option Int := fun j => if a ≤ j ∧ j < a + (k : Int) then some (f (j - a).toNat) else own j
theorem rowOwn_zero (own : Int → Option Int) (a : Int) (f : Nat → Int) : rowOwn own a f 0 = own := by
  funext j
  unfold rowOwn
  rw [if_neg (by omega)]
theorem rowOwn_succ (own : Int → Option Int) (a : Int) (f : Nat → Int) (k : Nat) : upd (rowOwn own a f k) (a + (k : Int)) (some (f k)) = rowOwn own a f (k + 1) := by
  funext j
  by_cases e : j = a + (k : Int)
  · subst e
    rw [upd_same]
    unfold rowOwn
    rw [if_pos (by omega)]
    congr 2
    omega
  · rw [upd_other _ _ e]
    unfold rowOwn
    by_cases h : a ≤ j ∧ j < a + (k : Int)
    · rw [if_pos h, if_pos (by omega)]
    · rw [if_neg h, if_neg (by omega)]

set_option maxHeartbeats 1000000 in
theorem vsetRow_any (V : VLay) (S : Vw) (N : Nat) (a : Int) (b o cap n : Nat) (f : Nat → Int) (w : World) (h : ViewIs w V S N) (hN : N < 1000000000) (hn : n ≤ 16) (ha0 : 8 ≤ a) (ha1 : a + (n : Int) ≤ 2824) (hop : ∀ j : Int, a ≤ j → j < a + (n : Int) → openI j)
    (hb : b ∉ V.all) (hbl : b < w.heap.size) (hf : ∀ i, i < n → (Lit.int .u64 (f i)).wf = true) (hw : Words w b o n f) :
    Calls Try.prog 64 #[.pointer (some ⟨V.vb, 0, none⟩), .int .i64 a, .slice (some ⟨b, o, none⟩) n cap] w fun e w' => e = .returned (.tuple #[]) ∧ ViewIs w' V { S with own := rowOwn S.own a f n } (N + n) ∧ Only [V.ob] w w' := by
  have HW : Hid (Words w b o n f) := hw
  have HO : Hid (∀ j : Int, a ≤ j → j < a + (n : Int) → openI j) := hop
  have HB : Hid (b ∉ V.all) := hb
  have HF : Hid (∀ i, i < n → (Lit.int .u64 (f i)).wf = true) := hf
  clear hw hop hb hf
  go_enter Try.func64, Try.ntmps64
  go_wp2
  go_loopw [6, 7, 10] (fun _ _ i wr => ∃ k : Nat, k ≤ n ∧ i = .int .i64 k ∧ Hid (ViewIs wr V { S with own := rowOwn S.own a f k } (N + k)) ∧ Hid (Only [V.ob] w wr)) (fun _ _ i _ => n - (intOf i).toNat)
  case atStart => exact ⟨0, Nat.zero_le _, rfl, by show ViewIs _ _ _ _; rw [rowOwn_zero]; exact h, Only.refl _ _⟩
  case round =>
    obtain ⟨k, hk, rfl, HV, HX⟩ := hrel
    by_cases hlt : k < n
    · have hb' : (k : Int) < (n : Int) := by omega
      have x1 : wr.cell? ⟨b, o + k, none⟩ = some (.int .u64 (f k)) := by
        rw [World.cell?_of_block (w := w) (HX.out.block b hbl (fun hm => HB.out (by simp only [List.mem_singleton] at hm; subst hm; simp [VLay.all, VLay.blocks])))]
        exact HW.out k hlt
      have c1 := HV.out.c1
      have hwk : (Lit.int .i64 (a + (k : Int))).wf = true := WalkArith.wf_i64 (by omega)
      have hwv := HF.out k hlt
      obtain ⟨X, hX⟩ : ∃ X, f k = X := ⟨_, rfl⟩
      rw [hX] at x1 hwv
      have KX : Hid (f k = X) := hX
      clear hX
      go_wp2_with (first
        | (at_mapUpdate; refine wpList_put _ rfl _ _ _ rfl V.ob (N + k) (rowOwn S.own a f k) (a + (k : Int)) X rfl HV.out.own (by unfold maxLen; omega) rfl rfl hwk hwv ?_; intro w2 hm2 ht2)
        | go_in)
      go_roundw
      case rel =>
        have hO : Only [V.ob] wr w2 := (Only.refl _ _).turned ht2 (by simp)
        rw [← KX.out, rowOwn_succ] at hm2
        refine ⟨k + 1, by omega, by go_num, ?_, HX.out.trans hO⟩
        have := HV.out.newOwn hm2 (Nat.le_refl _) hO (by
          rw [← rowOwn_succ]
          exact upd_in HV.out.inside (HO.out _ (by omega) (by omega)) _)
        exact this
      case measure => simp [intOf]; omega
    · obtain rfl : k = n := by omega
      go_wp2
      go_end0
      exact ⟨rfl, HV.out, HX.out⟩

/-- The first k of n words, and 0 behind. -/
def firstK (f : Nat → Int) (n k : Nat) : List Value := (List.range n).map fun (i : Nat) => Value.int .u64 (if i < k then f i else 0)
theorem firstK_zero (f : Nat → Int) (n : Nat) : firstK f n 0 = List.replicate n (Value.int .u64 0) := by
  apply List.ext_getElem (by simp [firstK])
  intro i h1 h2; simp [firstK]
theorem firstK_all (f : Nat → Int) (n : Nat) : firstK f n n = (List.range n).map fun (i : Nat) => Value.int .u64 (f i) := by
  apply List.ext_getElem (by simp [firstK])
  intro i h1 h2
  simp [firstK] at h1
  simp [firstK, h1]
theorem firstK_step (f : Nat → Int) (n k : Nat) : (firstK f n k).set k (.int .u64 (f k)) = firstK f n (k + 1) := by
  apply List.ext_getElem (by simp [firstK])
  intro i h1 h2
  rw [List.getElem_set]
  simp only [firstK, List.getElem_map, List.getElem_range]
  by_cases e : k = i
  · subst e; simp
  · have : (i < k + 1) ↔ (i < k) := by omega
    simp [e, this]

set_option maxHeartbeats 1000000 in
theorem vrow_any (V : VLay) (S : Vw) (N : Nat) (L : Lay) (M : Mem) (a : Int) (n : Nat) (w : World) (h : ViewIs w V S N) (hm : MemIs w L M) (hv : V.mb = L.mb) (hn : n ≤ 16) (ha0 : 0 ≤ a) (ha1 : a ≤ 2824) :
    Calls Try.prog 45 #[.pointer (some ⟨V.vb, 0, none⟩), .int .i64 a, .int .i64 n] w fun e w' => e = .returned (.slice (some ⟨w.heap.size, 0, none⟩) n n) ∧ w'.ownsRow w.heap.size 23 1 (.slice (some ⟨w.heap.size, 0, none⟩) n n) n ((List.range n).map fun (i : Nat) => Value.int .u64 (S.word M (a + (i : Int)))) ∧ Below w.heap.size w w' := by
  obtain ⟨i0, hi, hz0, hz1, hz2⟩ := info_parts Try.info22
  have hallV := h.all_lt
  have hallM := hm.all_lt
  rw [← firstK_all]
  obtain ⟨f, hf⟩ : ∃ f : Nat → Int, (fun (i : Nat) => S.word M (a + (i : Int))) = f := ⟨_, rfl⟩
  have HF : Hid ((fun (i : Nat) => S.word M (a + (i : Int))) = f) := hf
  rw [hf]
  clear hf
  go_enter Try.func45, Try.ntmps45
  go_wp2_with (first
    | (at_make; refine wpList_make_full _ rfl _ _ 30 rfl w.heap.size 23 i0 (.int .u64 0) 1 Try.underlying30 hi hz0 hz1 _ _ _ _ n rfl rfl rfl rfl (by rw [hz2]; omega) (by unfold maxLen; omega) (Nat.le_refl _) ?_; intro w0 hown0 hgrow0)
    | go_in)
  go_loopw [8, 13] (fun _ i wr => ∃ k : Nat, k ≤ n ∧ i = .int .i64 k ∧ wr.ownsRow w.heap.size 23 1 (.slice (some ⟨w.heap.size, 0, none⟩) n n) n (firstK f n k) ∧ Hid (Below w.heap.size w wr)) (fun _ i _ => n - (intOf i).toNat)
  case atStart => exact ⟨0, Nat.zero_le _, rfl, by rw [firstK_zero, ← toList_zeros]; exact hown0, (Below.refl _ _).grown hgrow0 (Nat.le_refl _) (fun k h => by cases h)⟩
  case round =>
    obtain ⟨k, hk, rfl, hown, hnx⟩ := hrel
    have HV : Hid (ViewIs wr V S N) := h.below hnx.out hallV
    have HM : Hid (MemIs wr L M) := hm.below hnx.out hallM
    by_cases hlt : k < n
    · have hcell : wr.cell? ⟨w.heap.size, k, none⟩ = some (.int .u64 0) := by rw [hown.cellAt _ (by omega)]; simp [firstK, hlt]
      have hfz : wr.frozen? ⟨w.heap.size, k, none⟩ = false := hown.frozenAt _
      have hwk : (Lit.int .i64 (a + (k : Int))).wf = true := WalkArith.wf_i64 (by omega)
      have e1 : S.word M (a + (k : Int)) = f k := congrFun HF.out k
      have HR : Hid (Calls Try.prog 57 #[.pointer (some ⟨V.vb, 0, none⟩), .int .i64 (a + (k : Int))] wr fun e w' => e = .returned (.int .u64 (f k)) ∧ w' = wr) := by
        have := vread_any V S N L M (a + (k : Int)) wr HV.out HM.out hv hwk
        rw [e1] at this
        exact this
      clear e1
      go_wp2_with (first
        | (go_at_call 57; refine Calls.mono (Hid.out HR) ?_; rintro e w' ⟨rfl, hw⟩; obtain rfl := hw.symm)
        | go_in)
      go_roundw
      case rel => exact ⟨k + 1, by omega, by go_num, by rw [← firstK_step]; exact (hown.stored k _).1, hnx.out.setCell (Nat.le_refl _) _⟩
      case measure => simp [intOf]; omega
    · obtain rfl : k = n := by omega
      go_wp2
      go_ret
      exact ⟨rfl, hown, hnx.out⟩

end Go.Proofs.Ytdjnkibnnjobpaa
