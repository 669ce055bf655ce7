/- Logs that are being made: what a crash leaves of each word, and which logs are sealed then. -/
import Derived.Test.YtfalchacdebdpaaSealJ
namespace Go.Proofs.Ytfalchacdebdpaa

/-- All of a memory's 2824 words are sure, and read as g says. -/
def SureM (M : Mem) (g : Nat → Int) : Prop := M.sure.length = 2824 ∧ ∀ k : Nat, k < 2824 → M.word k = Wst.sure (g k)
theorem SureM.read {M : Mem} {g : Nat → Int} (h : SureM M g) (k : Nat) (hk : k < 2824) : M.read k = g k := by
  have h2 := h.2 k hk
  unfold Mem.word Wst.sure at h2
  simp only [Wst.mk.injEq] at h2
  unfold Mem.read
  have hh : M.has k = true := by simp [Mem.has, h.1]; omega
  rw [if_pos hh, h2.2.1, h2.1]; rfl
theorem SureM.out {M : Mem} (k : Nat) (hl : M.sure.length = 2824) (hk : ¬ k < 2824) : M.read k = 0 := by
  unfold Mem.read
  have hh : ¬ M.has k = true := by simp [Mem.has, hl]; omega
  rw [if_neg hh]
def imgF (M : Mem) : Nat → Int := fun i => M.read i
theorem SureM.self {M : Mem} {g : Nat → Int} (h : SureM M g) : SureM M (imgF M) := ⟨h.1, fun k hk => by rw [h.2 k hk]; unfold imgF; rw [h.read k hk]⟩
theorem SureM.loose {M : Mem} {g : Nat → Int} (h : SureM M g) (hin : M.In) : ∀ k, M.loose k = none := by
  intro k
  cases hl : M.loose k with
  | none => rfl
  | some v =>
    have hb := hin k v hl
    rw [h.1] at hb
    have h2 := h.2 k.toNat (by omega)
    unfold Mem.word Wst.sure at h2
    simp only [Wst.mk.injEq] at h2
    have e : ((k.toNat : Nat) : Int) = k := by omega
    rw [e, hl] at h2
    cases h2.2.1

/-- A memory behind a crash. -/
theorem crash_sure {M : Mem} (h : M.In) (hl : M.sure.length = 2824) (ks : List Bool) : SureM (M.crash ks) (imgF (M.crash ks)) ∧ ∀ k : Nat, k < 2824 → Left (M.word k) (imgF (M.crash ks) k) := by
  have hl2 : (M.crash ks).sure.length = 2824 := (crash_len M ks).trans hl
  have key : ∀ k : Nat, k < 2824 → ∃ v, (M.crash ks).word k = Wst.sure v ∧ Left (M.word k) v := fun k hk => by
    rcases crash_word M ks h k (by omega) with e | e
    · exact ⟨_, e, .inl rfl⟩
    · exact ⟨_, e, .inr rfl⟩
  have rd : ∀ k : Nat, k < 2824 → ∀ v, (M.crash ks).word k = Wst.sure v → imgF (M.crash ks) k = v := fun k hk v e => by
    unfold Mem.word Wst.sure at e
    simp only [Wst.mk.injEq] at e
    unfold imgF Mem.read
    have hh : (M.crash ks).has k = true := by simp [Mem.has, hl2]; omega
    rw [if_pos hh, e.2.1, e.1]; rfl
  refine ⟨⟨hl2, fun k hk => ?_⟩, fun k hk => ?_⟩
  · obtain ⟨v, e, _⟩ := key k hk
    rw [rd k hk v e]; exact e
  · obtain ⟨v, e, hv⟩ := key k hk
    rw [rd k hk v e]; exact hv

/-! Which logs are sealed. -/
theorem rows_eq : ∀ {a b : List Rec}, a.Pairwise (fun x y => x.num < y.num) → b.Pairwise (fun x y => x.num < y.num) → (∀ x, x ∈ a ↔ x ∈ b) → a = b
  | [], [], _, _, _ => rfl
  | [], y :: b, _, _, h => absurd ((h y).2 (by simp)) (by simp)
  | x :: a, [], _, _, h => absurd ((h x).1 (by simp)) (by simp)
  | x :: a, y :: b, ha, hb, h => by
    obtain ⟨ha1, ha2⟩ := List.pairwise_cons.1 ha
    obtain ⟨hb1, hb2⟩ := List.pairwise_cons.1 hb
    have hxy : x = y := by
      rcases List.mem_cons.1 ((h x).1 (by simp)) with e | e
      · exact e
      · rcases List.mem_cons.1 ((h y).2 (by simp)) with e' | e'
        · exact e'.symm
        · have := hb1 x e; have := ha1 y e'; omega
    subst hxy
    congr 1
    refine rows_eq ha2 hb2 fun z => ⟨fun hz => ?_, fun hz => ?_⟩
    · rcases List.mem_cons.1 ((h z).1 (by simp [hz])) with e | e
      · have := ha1 z hz; rw [e] at this; omega
      · exact e
    · rcases List.mem_cons.1 ((h z).2 (by simp [hz])) with e | e
      · have := hb1 z hz; rw [e] at this; omega
      · exact e
theorem good_one_way {n : Nat} {f : Nat → Int} {a b : List Rec} (ha : GoodLogs n f a) (hb : GoodLogs n f b) : a = b :=
  rows_eq ha.2.2.2 hb.2.2.2 fun x => by rw [ha.2.2.1.mem_iff, hb.2.2.1.mem_iff]

theorem right_head {g : Nat → Int} (h : ∀ j, j < 8 → g j = headN j) : rightB 2824 g = true := by
  unfold rightB eqB
  simp only [decide_true, Bool.true_and, decide_eq_true_eq]
  exact h
theorem slot_none {g : Nat → Int} {s : Nat} (h : g (logAt s) = 0) : slotRecs g s = [] ∧ ¬ slotBad g s := ⟨by unfold slotRecs; rw [if_pos h], fun e => e.1 h⟩
/-- The words of a log hold these changes under this number. -/
def LogIs (g : Nat → Int) (s : Nat) (num : Int) (cs : List Chg) : Prop := g (logAt s) = num ∧ ∀ c ∈ notesP (logAt s) cs, ∀ k : Nat, c.1 = (k : Int) → g k = c.2
theorem notes_mem {lg : Int} {cs : List Chg} (c : Chg) : c ∈ notesP lg cs ↔ c = (lg + 1, (cs.length : Int)) ∨ ∃ i, i < cs.length ∧ (c = (lg + 8 + 2 * (i : Int), (cs.getD i (0, 0)).1) ∨ c = (lg + 8 + 2 * (i : Int) + 1, (cs.getD i (0, 0)).2)) := by
  unfold notesP notesTo
  simp only [List.mem_cons, List.mem_flatMap, List.mem_range, List.not_mem_nil, or_false]
theorem LogIs.chgs {g : Nat → Int} {s : Nat} {num : Int} {cs : List Chg} (h : LogIs g s num cs) (hr : rightP cs = 0) : g (logAt s + 1) = (cs.length : Int) ∧ chgsAt g s = cs := by
  have h1 : g (logAt s + 1) = (cs.length : Int) := h.2 (logAt s + 1, cs.length) ((notes_mem _).2 (.inl rfl)) (logAt s + 1) (by simp)
  refine ⟨h1, ?_⟩
  unfold chgsAt
  rw [h1]
  have e : ((cs.length : Int)).toNat = cs.length := by omega
  rw [e]
  apply List.ext_getElem (by rw [chgsOf_len])
  intro i h2 h3
  rw [chgsOf_len] at h2
  have a1 := h.2 (logAt s + 8 + 2 * (i : Int), (cs.getD i (0, 0)).1) ((notes_mem _).2 (.inr ⟨i, h3, .inl rfl⟩)) (logAt s + (8 + 2 * i)) (by simp; omega)
  have a2 := h.2 (logAt s + 8 + 2 * (i : Int) + 1, (cs.getD i (0, 0)).2) ((notes_mem _).2 (.inr ⟨i, h3, .inr rfl⟩)) (logAt s + (8 + 2 * i + 1)) (by simp; omega)
  have hg : cs.getD i (0, 0) = cs[i] := by simp [h3]
  rw [hg] at a1 a2
  have hin := rightP_inside hr cs[i] (List.getElem_mem h3)
  have e1 : (chgsOf (fun i => g (logAt s + i)) cs.length)[i]'(by rw [chgsOf_len]; exact h2) = chgOf (fun i => g (logAt s + i)) i := by simp [chgsOf]
  rw [e1]
  unfold chgOf
  dsimp only at a1 a2 ⊢
  rw [a1, a2]
  apply Prod.ext
  · show min _ _ = _; omega
  · rfl
theorem slot_one {g : Nat → Int} {s : Nat} {num : Int} {cs : List Chg} (h : LogIs g s num cs) (hn : num ≠ 0) (hr : rightP cs = 0) : slotRecs g s = [⟨logAt s, num, cs⟩] ∧ ¬ slotBad g s := by
  obtain ⟨h1, h2⟩ := h.chgs hr
  refine ⟨?_, ?_⟩
  · unfold slotRecs
    rw [h.1, if_neg hn, h2]
  · rintro ⟨_, e | e⟩
    · rw [h1] at e; have := (rightP_ok hr).1; omega
    · rw [h2] at e; exact e hr
theorem recsTo_four (g : Nat → Int) : recsTo g 4 = slotRecs g 0 ++ slotRecs g 1 ++ slotRecs g 2 ++ slotRecs g 3 := by
  rw [recsTo_succ, recsTo_succ, recsTo_succ, recsTo_succ]; simp [recsTo]
theorem good_none {g : Nat → Int} (hh : ∀ j, j < 8 → g j = headN j) (h : ∀ s, s < 4 → g (logAt s) = 0) : GoodLogs 2824 g [] := by
  refine ⟨right_head hh, fun s hs => (slot_none (h s hs)).2, ?_, List.Pairwise.nil⟩
  rw [recsTo_four, (slot_none (h 0 (by omega))).1, (slot_none (h 1 (by omega))).1, (slot_none (h 2 (by omega))).1, (slot_none (h 3 (by omega))).1]
  exact List.Perm.refl _
theorem good_one {g : Nat → Int} (hh : ∀ j, j < 8 → g j = headN j) {s0 : Nat} (hs0 : s0 < 4) (h : ∀ s, s < 4 → s ≠ s0 → g (logAt s) = 0) {num : Int} {cs : List Chg} (hl : LogIs g s0 num cs) (hn : num ≠ 0) (hr : rightP cs = 0) : GoodLogs 2824 g [⟨logAt s0, num, cs⟩] := by
  have key := slot_one hl hn hr
  refine ⟨right_head hh, fun s hs => ?_, ?_, by simp⟩
  · by_cases e : s = s0
    · subst e; exact key.2
    · exact (slot_none (h s hs e)).2
  · rw [recsTo_four]
    rcases (show s0 = 0 ∨ s0 = 1 ∨ s0 = 2 ∨ s0 = 3 by omega) with rfl | rfl | rfl | rfl
    · rw [key.1, (slot_none (h 1 (by omega) (by omega))).1, (slot_none (h 2 (by omega) (by omega))).1, (slot_none (h 3 (by omega) (by omega))).1]; exact List.Perm.refl _
    · rw [key.1, (slot_none (h 0 (by omega) (by omega))).1, (slot_none (h 2 (by omega) (by omega))).1, (slot_none (h 3 (by omega) (by omega))).1]; exact List.Perm.refl _
    · rw [key.1, (slot_none (h 0 (by omega) (by omega))).1, (slot_none (h 1 (by omega) (by omega))).1, (slot_none (h 3 (by omega) (by omega))).1]; exact List.Perm.refl _
    · rw [key.1, (slot_none (h 0 (by omega) (by omega))).1, (slot_none (h 1 (by omega) (by omega))).1, (slot_none (h 2 (by omega) (by omega))).1]; exact List.Perm.refl _
theorem good_two {g : Nat → Int} (hh : ∀ j, j < 8 → g j = headN j) (h1 : g (logAt 1) = 0) (h3 : g (logAt 3) = 0) {a b : List Chg} (ha : LogIs g 0 3 a) (hb : LogIs g 2 4 b) (ra : rightP a = 0) (rb : rightP b = 0) : GoodLogs 2824 g [⟨logAt 0, 3, a⟩, ⟨logAt 2, 4, b⟩] := by
  have k0 := slot_one ha (by decide) ra
  have k2 := slot_one hb (by decide) rb
  refine ⟨right_head hh, fun s hs => ?_, ?_, by simp⟩
  · rcases (show s = 0 ∨ s = 1 ∨ s = 2 ∨ s = 3 by omega) with rfl | rfl | rfl | rfl
    · exact k0.2
    · exact (slot_none h1).2
    · exact k2.2
    · exact (slot_none h3).2
  · rw [recsTo_four, k0.1, k2.1, (slot_none h1).1, (slot_none h3).1]
    exact List.Perm.refl _

end Go.Proofs.Ytfalchacdebdpaa
