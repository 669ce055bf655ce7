/- Plain mathematics of sorting by position: an order on places that leaves alike ones as they stand, rearranged segments, swaps, rotations, and what merging two sorted segments by a rotation gives. -/
namespace Go.Proofs.YtnebmbabfghlaaaDoor

/-- x stands ahead of y: by the key, and alike ones by their place. -/
def lt (k : Nat → Int) (x y : Nat) : Prop := k x < k y ∨ (k x = k y ∧ x < y)
theorem lt.trans {k : Nat → Int} {x y z : Nat} (h1 : lt k x y) (h2 : lt k y z) : lt k x z := by
  unfold lt at *; omega
theorem lt.irrefl {k : Nat → Int} {x : Nat} (h : lt k x x) : False := by unfold lt at h; omega
theorem lt.le {k : Nat → Int} {x y : Nat} (h : lt k x y) : k x ≤ k y := by unfold lt at h; omega
theorem lt_mk {k : Nat → Int} {x y : Nat} (h1 : k x ≤ k y) (h2 : x < y) : lt k x y := by unfold lt; omega
theorem lt_of {k : Nat → Int} {x y : Nat} (h1 : k x < k y) : lt k x y := .inl h1

/-- Sorted on [a, b). -/
def Srt (k : Nat → Int) (s : Nat → Nat) (a b : Nat) : Prop := ∀ i j, a ≤ i → i < j → j < b → lt k (s i) (s j)
theorem Srt.le {k : Nat → Int} {s : Nat → Nat} {a b : Nat} (h : Srt k s a b) {i j : Nat} (h1 : a ≤ i) (h2 : i ≤ j) (h3 : j < b) : k (s i) ≤ k (s j) := by
  rcases Nat.lt_or_ge i j with h4 | h4
  · exact (h i j h1 h4 h3).le
  · have : i = j := by omega
    rw [this]; exact Int.le_refl _
theorem Srt.congr {k : Nat → Int} {s t : Nat → Nat} {a b : Nat} (h : Srt k s a b) (e : ∀ i, a ≤ i → i < b → t i = s i) : Srt k t a b := fun i j h1 h2 h3 => by
  rw [e i h1 (by omega), e j (by omega) h3]; exact h i j h1 h2 h3
theorem Srt.join {k : Nat → Int} {s : Nat → Nat} {a m b : Nat} (h1 : Srt k s a m) (h2 : Srt k s m b) (h3 : ∀ i j, a ≤ i → i < m → m ≤ j → j < b → lt k (s i) (s j)) : Srt k s a b := fun i j x y z => by
  by_cases c1 : j < m
  · exact h1 i j x y c1
  · by_cases c2 : m ≤ i
    · exact h2 i j c2 y z
    · exact h3 i j x (by omega) (by omega) z
theorem Srt.one {k : Nat → Int} {s : Nat → Nat} {a b : Nat} (h : b ≤ a + 1) : Srt k s a b := fun i j x y z => by omega

/-- t is s, rearranged on [a, b). -/
structure Prm (s t : Nat → Nat) (a b : Nat) : Prop where
  out : ∀ i, i < a ∨ b ≤ i → t i = s i
  into : ∀ i, a ≤ i → i < b → ∃ j, a ≤ j ∧ j < b ∧ t i = s j
  onto : ∀ j, a ≤ j → j < b → ∃ i, a ≤ i ∧ i < b ∧ t i = s j
theorem Prm.refl (s : Nat → Nat) (a b : Nat) : Prm s s a b := ⟨fun _ _ => rfl, fun i h1 h2 => ⟨i, h1, h2, rfl⟩, fun i h1 h2 => ⟨i, h1, h2, rfl⟩⟩
theorem Prm.trans {s t u : Nat → Nat} {a b : Nat} (h1 : Prm s t a b) (h2 : Prm t u a b) : Prm s u a b :=
  ⟨fun i h => (h2.out i h).trans (h1.out i h),
   fun i x y => by obtain ⟨j, a1, a2, a3⟩ := h2.into i x y; obtain ⟨l, b1, b2, b3⟩ := h1.into j a1 a2; exact ⟨l, b1, b2, a3.trans b3⟩,
   fun j x y => by obtain ⟨l, b1, b2, b3⟩ := h1.onto j x y; obtain ⟨i, a1, a2, a3⟩ := h2.onto l b1 b2; exact ⟨i, a1, a2, a3.trans b3⟩⟩
theorem Prm.mono {s t : Nat → Nat} {c d a b : Nat} (h : Prm s t c d) (h1 : a ≤ c) (h2 : d ≤ b) : Prm s t a b :=
  ⟨fun i hi => h.out i (by omega),
   fun i x y => by
     by_cases e : c ≤ i ∧ i < d
     · obtain ⟨j, a1, a2, a3⟩ := h.into i e.1 e.2; exact ⟨j, by omega, by omega, a3⟩
     · exact ⟨i, x, y, h.out i (by omega)⟩,
   fun i x y => by
     by_cases e : c ≤ i ∧ i < d
     · obtain ⟨j, a1, a2, a3⟩ := h.onto i e.1 e.2; exact ⟨j, by omega, by omega, a3⟩
     · exact ⟨i, x, y, h.out i (by omega)⟩⟩

/-- Two places swapped. -/
def sw (s : Nat → Nat) (i j : Nat) : Nat → Nat := fun x => if x = i then s j else if x = j then s i else s x
theorem sw_prm (s : Nat → Nat) {i j a b : Nat} (h1 : a ≤ i) (h2 : i < b) (h3 : a ≤ j) (h4 : j < b) : Prm s (sw s i j) a b := by
  refine ⟨fun x hx => ?_, fun x hx hy => ?_, fun x hx hy => ?_⟩
  · unfold sw; rw [if_neg (by omega), if_neg (by omega)]
  · unfold sw
    by_cases e1 : x = i
    · exact ⟨j, h3, h4, by rw [if_pos e1]⟩
    · by_cases e2 : x = j
      · exact ⟨i, h1, h2, by rw [if_neg e1, if_pos e2]⟩
      · exact ⟨x, hx, hy, by rw [if_neg e1, if_neg e2]⟩
  · unfold sw
    by_cases e1 : x = i
    · by_cases e3 : j = i
      · exact ⟨i, h1, h2, by rw [if_pos rfl, e3, e1]⟩
      · exact ⟨j, h3, h4, by rw [if_neg e3, if_pos rfl, e1]⟩
    · by_cases e2 : x = j
      · exact ⟨i, h1, h2, by rw [if_pos rfl, e2]⟩
      · exact ⟨x, hx, hy, by rw [if_neg e1, if_neg e2]⟩

/-- [a, m) and [m, b) change places. -/
def rot (s : Nat → Nat) (a m b : Nat) : Nat → Nat := fun x => if a ≤ x ∧ x < a + (b - m) then s (x + (m - a)) else if a + (b - m) ≤ x ∧ x < b then s (x - (b - m)) else s x
/-- Two ranges of n change places. -/
def swR (s : Nat → Nat) (a b n : Nat) : Nat → Nat := fun x => if a ≤ x ∧ x < a + n then s (x + (b - a)) else if b ≤ x ∧ x < b + n then s (x - (b - a)) else s x

theorem rot_prm (s : Nat → Nat) {a m b : Nat} (h1 : a ≤ m) (h2 : m ≤ b) : Prm s (rot s a m b) a b := by
  refine ⟨fun x hx => ?_, fun x hx hy => ?_, fun x hx hy => ?_⟩
  · unfold rot; rw [if_neg (by omega), if_neg (by omega)]
  · unfold rot
    by_cases e1 : x < a + (b - m)
    · exact ⟨x + (m - a), by omega, by omega, by rw [if_pos (by omega)]⟩
    · exact ⟨x - (b - m), by omega, by omega, by rw [if_neg (by omega), if_pos (by omega)]⟩
  · unfold rot
    by_cases e1 : x < m
    · exact ⟨x + (b - m), by omega, by omega, by rw [if_neg (by omega), if_pos (by omega)]; congr 1; omega⟩
    · exact ⟨x - (m - a), by omega, by omega, by rw [if_pos (by omega)]; congr 1; omega⟩

theorem rot_none_l (s : Nat → Nat) (m b : Nat) (h : m ≤ b) : rot s m m b = s := by
  funext x; unfold rot
  by_cases e1 : m ≤ x ∧ x < m + (b - m)
  · rw [if_pos e1]; congr 1; omega
  · rw [if_neg e1, if_neg (by omega)]
theorem rot_none_r (s : Nat → Nat) (a m : Nat) : rot s a m m = s := by
  funext x; unfold rot
  rw [if_neg (by omega)]
  by_cases e1 : a + (m - m) ≤ x ∧ x < m
  · rw [if_pos e1]; congr 1; omega
  · rw [if_neg e1]
theorem rot_up (s : Nat → Nat) (a k : Nat) (h : a ≤ k) : sw (rot s a (a + 1) (k + 1)) k (k + 1) = rot s a (a + 1) (k + 2) := by
  funext x; unfold sw rot
  (repeat' split) <;> first | rfl | (exfalso; omega) | (congr 1; omega)
theorem rot_down (s : Nat → Nat) (k m : Nat) (h : k < m) : sw (rot s (k + 1) m (m + 1)) (k + 1) k = rot s k m (m + 1) := by
  funext x; unfold sw rot
  (repeat' split) <;> first | rfl | (exfalso; omega) | (congr 1; omega)
theorem swR_zero (s : Nat → Nat) (a b : Nat) : swR s a b 0 = s := by
  funext x; unfold swR; rw [if_neg (by omega), if_neg (by omega)]
theorem swR_step (s : Nat → Nat) (a b k : Nat) (h : a + k < b) : sw (swR s a b k) (a + k) (b + k) = swR s a b (k + 1) := by
  funext x; unfold sw swR
  (repeat' split) <;> first | rfl | (exfalso; omega) | (congr 1; omega)
theorem rot_more (s : Nat → Nat) (m i j : Nat) (h : j < i) (hm : i ≤ m) : rot (swR s (m - i) m j) (m - (i - j)) m (m + j) = rot s (m - i) m (m + j) := by
  funext x; unfold rot swR
  (repeat' split) <;> first | rfl | (exfalso; omega) | (congr 1; omega)
theorem rot_less (s : Nat → Nat) (m i j : Nat) (h : i < j) (hm : i ≤ m) : rot (swR s (m - i) (m + j - i) i) (m - i) m (m + (j - i)) = rot s (m - i) m (m + j) := by
  funext x; unfold rot swR
  (repeat' split) <;> first | rfl | (exfalso; omega) | (congr 1; omega)
theorem rot_same (s : Nat → Nat) (m i : Nat) (hm : i ≤ m) : swR s (m - i) m i = rot s (m - i) m (m + i) := by
  funext x; unfold rot swR
  (repeat' split) <;> first | rfl | (exfalso; omega) | (congr 1; omega)
/-- What a merge is given: two sorted segments, those of the first of lower places. -/
structure Two (k : Nat → Int) (s : Nat → Nat) (a m b : Nat) : Prop where
  l : Srt k s a m
  r : Srt k s m b
  x : ∀ i j, a ≤ i → i < m → m ≤ j → j < b → s i < s j

/-- One element, a, put into [a + 1, b). -/
theorem merge_first {k : Nat → Int} {s : Nat → Nat} {a b i : Nat} (h : Two k s a (a + 1) b) (hi : a + 1 ≤ i) (hb : i ≤ b) (h1 : i = a + 1 ∨ k (s (i - 1)) < k (s a)) (h2 : i = b ∨ ¬ k (s i) < k (s a)) : Srt k (rot s a (a + 1) i) a b := by
  intro p q h3 h4 h5
  have key : ∀ x, a ≤ x → x < b → rot s a (a + 1) i x = if x < i - 1 then s (x + 1) else if x = i - 1 then s a else s x := fun x hx hy => by
    unfold rot
    by_cases c1 : x < i - 1
    · rw [if_pos (by omega), if_pos c1]; congr 1; omega
    · rw [if_neg (by omega), if_neg c1]
      by_cases c2 : x = i - 1
      · rw [if_pos (by omega), if_pos c2]; congr 1; omega
      · rw [if_neg (by omega), if_neg c2]
  rw [key p h3 (by omega), key q (by omega) h5]
  by_cases c1 : q < i - 1
  · rw [if_pos (by omega), if_pos c1]; exact h.r _ _ (by omega) (by omega) (by omega)
  · rw [if_neg c1]
    by_cases c2 : q = i - 1
    · rw [if_pos c2, if_pos (by omega)]
      have h6 := h.r.le (i := p + 1) (j := i - 1) (by omega) (by omega) (by omega)
      exact lt_of (by omega)
    · rw [if_neg c2]
      by_cases c3 : p < i - 1
      · rw [if_pos c3]; exact h.r _ _ (by omega) (by omega) h5
      · rw [if_neg c3]
        by_cases c4 : p = i - 1
        · rw [if_pos c4]
          have h6 := h.r.le (i := i) (j := q) (by omega) (by omega) (by omega)
          exact lt_mk (by omega) (h.x a q (by omega) (by omega) (by omega) h5)
        · rw [if_neg c4]; exact h.r _ _ (by omega) h4 h5
/-- One element, m, put into [a, m). -/
theorem merge_last {k : Nat → Int} {s : Nat → Nat} {a m i : Nat} (h : Two k s a m (m + 1)) (hi : a ≤ i) (hb : i ≤ m) (h1 : i = a ∨ ¬ k (s m) < k (s (i - 1))) (h2 : i = m ∨ k (s m) < k (s i)) : Srt k (rot s i m (m + 1)) a (m + 1) := by
  intro p q h3 h4 h5
  have key : ∀ x, a ≤ x → x < m + 1 → rot s i m (m + 1) x = if x < i then s x else if x = i then s m else s (x - 1) := fun x hx hy => by
    unfold rot
    by_cases c1 : x < i
    · rw [if_neg (by omega), if_neg (by omega), if_pos c1]
    · rw [if_neg c1]
      by_cases c2 : x = i
      · rw [if_pos (by omega), if_pos c2]; congr 1; omega
      · rw [if_neg (by omega), if_pos (by omega), if_neg c2]; congr 1; omega
  rw [key p h3 (by omega), key q (by omega) h5]
  by_cases c1 : q < i
  · rw [if_pos (by omega), if_pos c1]; exact h.l _ _ (by omega) (by omega) (by omega)
  · rw [if_neg c1]
    by_cases c2 : q = i
    · rw [if_pos c2, if_pos (by omega)]
      have h6 := h.l.le (i := p) (j := i - 1) (by omega) (by omega) (by omega)
      exact lt_mk (by omega) (h.x p m (by omega) (by omega) (by omega) (by omega))
    · rw [if_neg c2]
      by_cases c3 : p < i
      · rw [if_pos c3]; exact h.l _ _ (by omega) (by omega) (by omega)
      · rw [if_neg c3]
        by_cases c4 : p = i
        · rw [if_pos c4]
          have h6 := h.l.le (i := i) (j := q - 1) (by omega) (by omega) (by omega)
          exact lt_of (by omega)
        · rw [if_neg c4]; exact h.l _ _ (by omega) (by omega) (by omega)

/-- Behind the rotation: two segments, the first wholly ahead of the second, each of two sorted parts. -/
structure Halves (k : Nat → Int) (t : Nat → Nat) (a st mid en b : Nat) : Prop where
  l : Two k t a st mid
  r : Two k t mid en b
  x : ∀ i j, a ≤ i → i < mid → mid ≤ j → j < b → lt k (t i) (t j)
theorem merge_mid {k : Nat → Int} {s : Nat → Nat} {a m b st en mid lo hi : Nat} (h : Two k s a m b) (ha : a < m) (hb : m < b) (hmid : mid = (a + b) / 2)
    (hlo : mid < m ∧ lo = mid + m - b ∧ hi = mid ∨ m ≤ mid ∧ lo = a ∧ hi = m) (h1 : lo ≤ st) (h2 : st ≤ hi) (hen : en = mid + m - st)
    (hl : st = lo ∨ ¬ k (s (mid + m - 1 - (st - 1))) < k (s (st - 1))) (hr : st = hi ∨ k (s (mid + m - 1 - st)) < k (s st)) :
    a ≤ st ∧ st ≤ m ∧ m ≤ en ∧ st ≤ mid ∧ mid ≤ en ∧ en ≤ b ∧ Halves k (rot s st m en) a st mid en b := by
  have b1 : a ≤ st := by omega
  have b2 : st ≤ m := by omega
  have b3 : m ≤ en := by omega
  have b4 : st ≤ mid := by omega
  have b5 : mid ≤ en := by omega
  have b6 : en ≤ b := by omega
  have e0 : st + (en - m) = mid := by omega
  have r1 : ∀ x, x < st → rot s st m en x = s x := fun x hx => by unfold rot; rw [if_neg (by omega), if_neg (by omega)]
  have r2 : ∀ x, st ≤ x → x < mid → rot s st m en x = s (x + (m - st)) := fun x hx hy => by unfold rot; rw [if_pos (by omega)]
  have r3 : ∀ x, mid ≤ x → x < en → rot s st m en x = s (x - (en - m)) := fun x hx hy => by unfold rot; rw [if_neg (by omega), if_pos (by omega)]
  have r4 : ∀ x, en ≤ x → rot s st m en x = s x := fun x hx => by unfold rot; rw [if_neg (by omega), if_neg (by omega)]
  refine ⟨b1, b2, b3, b4, b5, b6, ⟨?_, ?_, ?_⟩, ⟨?_, ?_, ?_⟩, ?_⟩
  · intro i j c1 c2 c3; rw [r1 i (by omega), r1 j (by omega)]; exact h.l i j c1 c2 (by omega)
  · intro i j c1 c2 c3; rw [r2 i c1 (by omega), r2 j (by omega) c3]; exact h.r _ _ (by omega) (by omega) (by omega)
  · intro i j c1 c2 c3 c4; rw [r1 i c2, r2 j c3 c4]; exact h.x _ _ c1 (by omega) (by omega) (by omega)
  · intro i j c1 c2 c3; rw [r3 i c1 (by omega), r3 j (by omega) c3]; exact h.l _ _ (by omega) (by omega) (by omega)
  · intro i j c1 c2 c3; rw [r4 i c1, r4 j (by omega)]; exact h.r _ _ (by omega) (by omega) (by omega)
  · intro i j c1 c2 c3 c4; rw [r3 i c1 c2, r4 j c3]; exact h.x _ _ (by omega) (by omega) (by omega) (by omega)
  · intro i j c1 c2 c3 c4
    by_cases d1 : i < st
    · rw [r1 i d1]
      by_cases d2 : j < en
      · rw [r3 j c3 d2]; exact h.l _ _ c1 (by omega) (by omega)
      · rw [r4 j (by omega)]
        have e1 : mid + m - 1 - (st - 1) = en := by omega
        rw [e1] at hl
        have h6 := h.l.le (i := i) (j := st - 1) (by omega) (by omega) (by omega)
        have h7 := h.r.le (i := en) (j := j) (by omega) (by omega) (by omega)
        exact lt_mk (by omega) (h.x _ _ c1 (by omega) (by omega) c4)
    · rw [r2 i (by omega) c2]
      by_cases d2 : j < en
      · rw [r3 j c3 d2]
        have e1 : mid + m - 1 - st = en - 1 := by omega
        rw [e1] at hr
        have h6 := h.r.le (i := i + (m - st)) (j := en - 1) (by omega) (by omega) (by omega)
        have h7 := h.l.le (i := st) (j := j - (en - m)) (by omega) (by omega) (by omega)
        exact lt_of (by omega)
      · rw [r4 j (by omega)]; exact h.r _ _ (by omega) (by omega) (by omega)

/-- The halves, each rearranged and sorted: the whole is sorted. -/
theorem halves_done {k : Nat → Int} {t u : Nat → Nat} {a st mid en b : Nat} (h : Halves k t a st mid en b) (l1 : ∀ i, a ≤ i → i < mid → ∃ j, a ≤ j ∧ j < mid ∧ u i = t j) (l2 : ∀ i, mid ≤ i → i < b → ∃ j, mid ≤ j ∧ j < b ∧ u i = t j)
    (s1 : Srt k u a mid) (s2 : Srt k u mid b) : Srt k u a b :=
  Srt.join s1 s2 fun i j c1 c2 c3 c4 => by
    obtain ⟨i', d1, d2, e1⟩ := l1 i c1 c2
    obtain ⟨j', d3, d4, e2⟩ := l2 j c3 c4
    rw [e1, e2]; exact h.x i' j' d1 d2 d3 d4
end Go.Proofs.YtnebmbabfghlaaaDoor
