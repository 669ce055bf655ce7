/- Plain mathematics of names and paths: which names may be, a text cut at each '/', the path of names, there and back. No program in it. -/
import Derived.Lib.Split
import Derived.Lib.Join
namespace Go.Proofs.YtlpikfebbfcofaaDoor

/-- A byte that a name may have. -/
def okb (b : Nat) : Bool := (decide (97 ≤ b) && decide (b ≤ 122)) || (decide (48 ≤ b) && decide (b ≤ 57)) || b == 46 || b == 45 || b == 95
/-- A name that may be. -/
def rt (l : List UInt8) : Bool := decide (1 ≤ l.length) && decide (l.length ≤ 14) && !(l == [46]) && !(l == [46, 46]) && l.all (fun b => okb b.toNat)
/-- A text cut at each '/'. -/
def pcs : List UInt8 → List (List UInt8)
  | [] => [[]]
  | b :: r => if b = 47 then [] :: pcs r else match pcs r with
    | [] => [[b]]
    | h :: t => (b :: h) :: t
/-- Names, each with a '/' ahead. -/
def fl (xs : List (List UInt8)) : List UInt8 := xs.flatMap (fun x => 47 :: x)
def pth (xs : List (List UInt8)) : List UInt8 := if xs = [] then [47] else fl xs
def Jn (xs : List (List UInt8)) : Option (List UInt8) := if xs.all rt = true ∧ (fl xs).length ≤ 120 then some (pth xs) else none
def Sp (p : List UInt8) : Option (List (List UInt8)) :=
  if p.length ≤ 120 ∧ p.head? = some 47 then (if p = [47] then some [] else if (pcs (p.drop 1)).all rt = true then some (pcs (p.drop 1)) else none) else none

theorem pcs_ne (l : List UInt8) : pcs l ≠ [] := by
  cases l with
  | nil => simp [pcs]
  | cons b r => simp only [pcs]; split <;> (try split) <;> simp

theorem pcs_cons_ne (b : UInt8) (r : List UInt8) (h : b ≠ 47) : ∃ x t, pcs r = x :: t ∧ pcs (b :: r) = (b :: x) :: t := by
  cases hp : pcs r with
  | nil => exact absurd hp (pcs_ne r)
  | cons x t => exact ⟨x, t, rfl, by simp [pcs, h, hp]⟩

theorem fl_pcs (l : List UInt8) : fl (pcs l) = 47 :: l := by
  induction l with
  | nil => rfl
  | cons b r ih =>
    by_cases h : b = 47
    · subst h; simp only [pcs, if_pos, fl, List.flatMap_cons]; rw [← fl, ih]; rfl
    · obtain ⟨x, t, h1, h2⟩ := pcs_cons_ne b r h
      rw [h1] at ih
      rw [h2]
      simp only [fl, List.flatMap_cons, List.cons_append, List.cons.injEq, true_and] at ih ⊢
      rw [ih]

/-- no '/' in it: one piece -/
theorem pcs_none (a : List UInt8) (h : ∀ b ∈ a, b ≠ 47) : pcs a = [a] := by
  induction a with
  | nil => rfl
  | cons b r ih =>
    have := ih (fun c hc => h c (List.mem_cons_of_mem _ hc))
    have hb := h b (List.mem_cons_self)
    simp [pcs, hb, this]

theorem pcs_cut (a r : List UInt8) (h : ∀ b ∈ a, b ≠ 47) : pcs (a ++ 47 :: r) = a :: pcs r := by
  induction a with
  | nil => simp [pcs]
  | cons b a ih =>
    have := ih (fun c hc => h c (List.mem_cons_of_mem _ hc))
    have hb := h b (List.mem_cons_self)
    simp [pcs, hb, this]

theorem okb_slash {b : UInt8} (h : okb b.toNat = true) : b ≠ 47 := by
  intro e; subst e; revert h; decide

theorem rt_noslash {x : List UInt8} (h : rt x = true) : ∀ b ∈ x, b ≠ 47 := by
  intro b hb
  simp only [rt, Bool.and_eq_true, List.all_eq_true] at h
  exact okb_slash (h.2 b hb)
theorem rt_len {x : List UInt8} (h : rt x = true) : 1 ≤ x.length ∧ x.length ≤ 14 := by
  simp only [rt, Bool.and_eq_true, decide_eq_true_eq] at h
  exact ⟨h.1.1.1.1, h.1.1.1.2⟩

theorem pcs_fl (xs : List (List UInt8)) (hne : xs ≠ []) (h : ∀ x ∈ xs, ∀ b ∈ x, b ≠ 47) : pcs ((fl xs).drop 1) = xs := by
  induction xs with
  | nil => exact absurd rfl hne
  | cons x t ih =>
    have hx := h x (List.mem_cons_self)
    cases t with
    | nil => simp [fl, pcs_none x hx]
    | cons y t =>
      have := ih (by simp) (fun z hz => h z (List.mem_cons_of_mem _ hz))
      have e : (fl (x :: y :: t)).drop 1 = x ++ 47 :: (fl (y :: t)).drop 1 := by simp [fl]
      rw [e, pcs_cut x _ hx, this]

theorem Jn_of_Sp {p : List UInt8} {xs : List (List UInt8)} (h : Sp p = some xs) : Jn xs = some p := by
  unfold Sp at h
  split at h
  · rename_i hc
    obtain ⟨hl, hh⟩ := hc
    split at h
    · rename_i e; obtain rfl := Option.some.inj h; subst e; decide
    · split at h
      · rename_i hr
        obtain rfl := Option.some.inj h
        have e : fl (pcs (p.drop 1)) = p := by
          rw [fl_pcs]
          cases p with
          | nil => simp at hh
          | cons b r => simp at hh; subst hh; rfl
        unfold Jn
        rw [if_pos ⟨hr, by rw [e]; exact hl⟩, pth, if_neg (pcs_ne _), e]
      · cases h
  · cases h

theorem Sp_of_Jn {p : List UInt8} {xs : List (List UInt8)} (h : Jn xs = some p) : Sp p = some xs := by
  unfold Jn at h
  split at h
  · rename_i hc
    obtain ⟨hr, hl⟩ := hc
    obtain rfl := Option.some.inj h
    by_cases he : xs = []
    · subst he; decide
    · rw [pth, if_neg he]
      have hn : ∀ x ∈ xs, rt x = true := by simpa using hr
      have hp := pcs_fl xs he (fun x hx => rt_noslash (hn x hx))
      obtain ⟨x, t, rfl⟩ : ∃ x t, xs = x :: t := by
        cases xs with
        | nil => exact absurd rfl he
        | cons x t => exact ⟨x, t, rfl⟩
      have h1 := (rt_len (hn x (List.mem_cons_self))).1
      unfold Sp
      rw [if_pos ⟨hl, by simp [fl]⟩, if_neg (by
        intro e
        have := congrArg List.length e
        simp [fl] at this
        rw [this.1] at h1
        simp at h1), hp, if_pos hr]
  · cases h

theorem fl_snoc (xs : List (List UInt8)) (x : List UInt8) : fl (xs ++ [x]) = fl xs ++ 47 :: x := by simp [fl]

theorem Jn_init {p : List UInt8} {xs : List (List UInt8)} {x : List UInt8} (h : Jn (xs ++ [x]) = some p) : Jn xs = some (pth xs) := by
  unfold Jn at h ⊢
  split at h
  · rename_i hc
    obtain ⟨hr, hl⟩ := hc
    rw [fl_snoc] at hl
    rw [List.all_append] at hr
    simp only [Bool.and_eq_true] at hr
    rw [if_pos ⟨hr.1, by simp at hl; omega⟩]
  · cases h

/-- The document's cut of a path. -/
def lref (p : List UInt8) : List (List UInt8) := if p = [] ∨ p = [47] then [] else pcs (p.drop 1)
theorem Sp_lref (p : List UInt8) : Sp p = if Jn (lref p) = some p then some (lref p) else none := by
  split
  · rename_i h; exact Sp_of_Jn h
  · rename_i h
    by_cases h0 : p = []
    · subst h0; decide
    by_cases h1 : p = [47]
    · subst h1; exact absurd (by decide) h
    · cases hs : Sp p with
      | none => rfl
      | some xs =>
        exfalso
        apply h
        have e : xs = lref p := by
          unfold Sp at hs
          rw [if_neg h1] at hs
          split at hs
          · split at hs
            · rw [lref, if_neg (by simp [h0, h1])]; exact (Option.some.inj hs).symm
            · cases hs
          · cases hs
        rw [← e]; exact Jn_of_Sp hs

/-- do b's names begin with a's? -/
def Un (a b : List UInt8) : Bool := match Sp a, Sp b with
  | some x, some y => x == y.take x.length
  | _, _ => false

theorem Un_self {p : List UInt8} {xs : List (List UInt8)} (h : Sp p = some xs) : Un p p = true := by simp [Un, h]
theorem Un_up {p up : List UInt8} {xs : List (List UInt8)} {x : List UInt8} (h : Sp p = some (xs ++ [x])) (hu : Sp up = some xs) : Un up p = true ∧ Un p up = false := by
  simp only [Un, h, hu]
  refine ⟨by simp, ?_⟩
  rw [beq_eq_false_iff_ne]
  intro e
  have := congrArg List.length e
  simp at this

/- the library's cut at '/' is this one -/
theorem index_slash_none (s : List UInt8) (h : ∀ b ∈ s, b ≠ 47) : Lib.index s [47] = -1 := by
  induction s with
  | nil => rfl
  | cons b r ih =>
    have := ih (fun c hc => h c (List.mem_cons_of_mem _ hc))
    have hb := h b (List.mem_cons_self)
    have hb' : ¬ (47 : UInt8) = b := fun e => hb e.symm
    simp [Lib.index, this, List.isPrefixOf, hb']
theorem index_slash (a r : List UInt8) (h : ∀ b ∈ a, b ≠ 47) : Lib.index (a ++ 47 :: r) [47] = a.length := by
  induction a with
  | nil => simp [Lib.index, List.isPrefixOf]
  | cons b a ih =>
    have := ih (fun c hc => h c (List.mem_cons_of_mem _ hc))
    have hb := h b (List.mem_cons_self)
    have hb' : ¬ (47 : UInt8) = b := fun e => hb e.symm
    simp only [List.cons_append, Lib.index, this]
    simp [List.isPrefixOf, hb']

theorem first_slash (s : List UInt8) : (∀ b ∈ s, b ≠ 47) ∨ ∃ a r, s = a ++ 47 :: r ∧ ∀ b ∈ a, b ≠ 47 := by
  induction s with
  | nil => exact .inl (fun _ h => by cases h)
  | cons b r ih =>
    by_cases hb : b = 47
    · subst hb; exact .inr ⟨[], r, rfl, fun _ h => by cases h⟩
    · rcases ih with ih | ⟨a, t, e, ih⟩
      · refine .inl fun c hc => ?_
        rcases List.mem_cons.1 hc with rfl | hc
        · exact hb
        · exact ih c hc
      · refine .inr ⟨b :: a, t, by rw [e]; rfl, fun c hc => ?_⟩
        rcases List.mem_cons.1 hc with rfl | hc
        · exact hb
        · exact ih c hc

theorem split_pcs (k : Nat) : ∀ s : List UInt8, s.length ≤ k → Lib.split s [47] = pcs s := by
  induction k with
  | zero =>
    intro s hs
    obtain rfl : s = [] := List.length_eq_zero_iff.1 (by omega)
    rfl
  | succ k ih =>
    intro s hs
    rcases first_slash s with h | ⟨a, r, rfl, h⟩
    · rw [pcs_none s h, Lib.split, Lib.count_miss (index_slash_none s h)]; rfl
    · have hi := index_slash a r h
      rw [pcs_cut a r h, Lib.split, Lib.count_hit (by simp) hi]
      have ed : (a ++ 47 :: r).drop (a.length + [(47 : UInt8)].length) = r := by simp
      rw [ed, Nat.add_comm 1, Lib.splitK, hi]
      have : ¬ ((a.length : Int) == -1) = true := by intro e; have := beq_iff_eq.1 e; omega
      rw [if_neg this, Int.toNat_natCast, ed]
      have := ih r (by simp at hs; omega)
      rw [Lib.split] at this
      rw [this]
      simp

/- bytes and lists -/
def mk (l : List UInt8) : ByteArray := ⟨l.toArray⟩
abbrev ls (s : ByteArray) : List UInt8 := s.data.toList
theorem mk_ls (s : ByteArray) : mk (ls s) = s := rfl
theorem ls_mk (l : List UInt8) : ls (mk l) = l := rfl
theorem ls_inj {a b : ByteArray} (h : ls a = ls b) : a = b := by rw [← mk_ls a, ← mk_ls b, h]
theorem ls_size (s : ByteArray) : (ls s).length = s.size := by simp [ls]
theorem ls_append (a b : ByteArray) : ls (a ++ b) = ls a ++ ls b := by simp [ls]
theorem mk_append (a b : List UInt8) : mk (a ++ b) = mk a ++ mk b := ls_inj (by rw [ls_append, ls_mk, ls_mk, ls_mk])

def lss (xs : List ByteArray) : List (List UInt8) := xs.map ls
def mks (xs : List (List UInt8)) : List ByteArray := xs.map mk
theorem mks_lss (xs : List ByteArray) : mks (lss xs) = xs := by unfold mks lss; rw [List.map_map]; exact List.map_id'' (fun s => mk_ls s) xs
theorem lss_mks (xs : List (List UInt8)) : lss (mks xs) = xs := by unfold mks lss; rw [List.map_map]; exact List.map_id'' (fun s => ls_mk s) xs
theorem lss_inj {a b : List ByteArray} (h : lss a = lss b) : a = b := by rw [← mks_lss a, ← mks_lss b, h]

theorem splitB_pcs (s : ByteArray) : Lib.splitB ⟨#[47]⟩ 0 (Lib.countB s ⟨#[47]⟩) s = mks (pcs (ls s)) := by
  apply lss_inj
  rw [lss_mks, ← split_pcs _ (ls s) (Nat.le_refl _)]
  exact Lib.splitB_data ⟨#[47]⟩ 0 _ s

/-- the library's joining, with a '/' ahead -/
theorem join_fl (xs : List (List UInt8)) (h : xs ≠ []) : 47 :: Lib.join xs [47] = fl xs := by
  induction xs with
  | nil => exact absurd rfl h
  | cons x t ih =>
    cases t with
    | nil => simp [Lib.join, fl, List.intercalate]
    | cons y t =>
      have := ih (by simp)
      simp only [Lib.join, List.intercalate] at this ⊢
      have e : List.intersperse [47] (x :: y :: t) = x :: [47] :: List.intersperse [47] (y :: t) := rfl
      rw [e, List.flatten_cons, List.flatten_cons, List.singleton_append, this]
      simp [fl]

end Go.Proofs.YtlpikfebbfcofaaDoor
