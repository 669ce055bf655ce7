/- A memory in plain words: its sure words, its loose words, what is on the way; what each call makes of it. And each word for itself: what steps make of one word, whatever else is done. -/
import Derived.WalkKit
namespace Go.Proofs.Ytdjnkibnnjobpaa

/-- A function with one value changed. -/
def upd (f : Int → Option Int) (k : Int) (x : Option Int) : Int → Option Int := fun j => if j = k then x else f j

theorem upd_same (f : Int → Option Int) (k : Int) (x : Option Int) : upd f k x k = x := by simp [upd]
theorem upd_other (f : Int → Option Int) {k j : Int} (x : Option Int) (h : j ≠ k) : upd f k x j = f j := by simp [upd, h]

/-- A memory: its sure words, its loose words, what is on the way, how many calls, and where it stands still. -/
structure Mem where
  sure : List Int
  loose : Int → Option Int
  way : Int → Option Int
  calls : Nat
  stops : Bool
  stopAt : Int

/-- Does the memory stand still? -/
def Mem.still (M : Mem) : Bool := M.stops && decide (M.stopAt ≤ M.calls)
/-- One call more. -/
def Mem.counted (M : Mem) : Mem := { M with calls := M.calls + 1 }
/-- Is there such a word? -/
def Mem.has (M : Mem) (k : Int) : Bool := decide (0 ≤ k) && decide (k < M.sure.length)
/-- What a call that counts answers. -/
def Mem.err (M : Mem) : Int := if M.still then 14 else 0
/-- What a call that counts and names a word answers. -/
def Mem.errAt (M : Mem) (k : Int) : Int := if M.still then 14 else if M.has k then 0 else 1
/-- The memory behind a Store. -/
def Mem.store (M : Mem) (k v : Int) : Mem := if M.errAt k = 0 then { M.counted with loose := upd M.loose k (some v) } else M.counted
/-- How a word reads. -/
def Mem.read (M : Mem) (k : Int) : Int := if M.has k then (M.loose k).getD (M.sure.getD k.toNat 0) else 0
/-- What is on the way behind a flush of line q. -/
def wayOf (M : Mem) (q : Int) : Int → Option Int := fun k => if k / 8 = q ∧ (M.loose k).isSome = true then M.loose k else M.way k
/-- The memory behind a Flush. -/
def Mem.flush (M : Mem) (k : Int) : Mem := if M.errAt k = 0 then { M.counted with way := wayOf M (k / 8) } else M.counted
/-- The memory behind an Evict. -/
def Mem.evict (M : Mem) (k : Int) : Mem := match M.loose k with
  | none => M
  | some v => { M with sure := M.sure.set k.toNat v, loose := upd M.loose k none, way := upd M.way k none }
/-- The memory behind a Stop. -/
def Mem.stop (M : Mem) (n : Int) : Mem := if 0 ≤ n ∧ n ≤ 1099511627776 then { M with stops := true, stopAt := M.calls + n } else { M with stops := false, stopAt := 0 }
/-- The sure words when those on the way have been made sure whose mark is down. -/
def sureTo (M : Mem) (lf : Int → Bool) : List Int := (List.range M.sure.length).map fun (i : Nat) => if lf i = false then (M.way i).getD (M.sure.getD i 0) else M.sure.getD i 0
/-- The loose words then. -/
def looseTo (M : Mem) (lf : Int → Bool) : Int → Option Int := fun k => if lf k = false ∧ (M.way k).isSome = true ∧ M.loose k = M.way k then none else M.loose k
def fenceTo (M : Mem) (lf : Int → Bool) : Mem := { M.counted with sure := sureTo M lf, loose := looseTo M lf }
/-- The memory behind a Fence. -/
def Mem.fence (M : Mem) : Mem := if M.err = 0 then { fenceTo M (fun _ => false) with way := fun _ => none } else M.counted
/-- The loose words' places, in order. -/
def Mem.keys (M : Mem) : List Int := ((List.range M.sure.length).filter fun (i : Nat) => (M.loose i).isSome).map Int.ofNat
/-- All words as they read. -/
def Mem.image (M : Mem) : List Int := (List.range M.sure.length).map fun (i : Nat) => M.read i
/-- A memory whose words are xs, all sure. -/
def fresh (xs : List Int) : Mem := ⟨xs, fun _ => none, fun _ => none, 0, false, 0⟩
/-- Is the t-th loose word kept? -/
def kept (ks : List Bool) (t : Nat) : Bool := !ks.isEmpty && ks.getD (t % ks.length) false
/-- The sure words when t loose words have been looked at. -/
def crashTo (M : Mem) (ks : List Bool) : Nat → List Int
  | 0 => M.sure
  | t + 1 => if kept ks t then (crashTo M ks t).set (M.keys.getD t 0).toNat ((M.loose (M.keys.getD t 0)).getD 0) else crashTo M ks t
/-- The memory behind a Crash. -/
def Mem.crash (M : Mem) (ks : List Bool) : Mem := { M with sure := crashTo M ks M.keys.length, loose := fun _ => none, way := fun _ => none, stops := false, stopAt := 0 }

theorem errAt_cases (M : Mem) (k : Int) : M.errAt k = 14 ∨ M.errAt k = 1 ∨ M.errAt k = 0 ∧ M.has k = true := by
  unfold Mem.errAt
  by_cases h1 : M.still = true
  · simp [h1]
  · by_cases h2 : M.has k = true
    · simp [h1, h2]
    · simp [h1, h2]

theorem mem_keys (M : Mem) (hin : ∀ k v, M.loose k = some v → 0 ≤ k ∧ k < M.sure.length) (x : Int) : x ∈ M.keys ↔ (M.loose x).isSome = true := by
  unfold Mem.keys
  constructor
  · intro h
    obtain ⟨i, hi, rfl⟩ := List.mem_map.1 h
    exact (List.mem_filter.1 hi).2
  · intro h
    obtain ⟨v, hv⟩ := Option.isSome_iff_exists.1 h
    have := hin x v hv
    refine List.mem_map.2 ⟨x.toNat, List.mem_filter.2 ⟨List.mem_range.2 (by omega), ?_⟩, ?_⟩
    · have e : ((x.toNat : Nat) : Int) = x := by omega
      rw [e]; exact h
    · show ((x.toNat : Nat) : Int) = x; omega

theorem keys_rising (M : Mem) : M.keys.Pairwise (fun a b => a < b) := by
  unfold Mem.keys
  refine List.pairwise_map.2 ?_
  refine (List.Pairwise.filter _ List.pairwise_lt_range).imp ?_
  intro a b h
  show (a : Int) < (b : Int)
  omega

theorem keys_len (M : Mem) : M.keys.length ≤ M.sure.length := by
  unfold Mem.keys
  rw [List.length_map]
  exact Nat.le_trans (List.length_filter_le _ _) (by simp)

theorem crashTo_len (M : Mem) (ks : List Bool) (t : Nat) : (crashTo M ks t).length = M.sure.length := by
  induction t with
  | zero => rfl
  | succ t ih => unfold crashTo; split <;> simp [ih]

theorem crashTo_or (M : Mem) (ks : List Bool) (hin : ∀ k v, M.loose k = some v → 0 ≤ k ∧ k < M.sure.length) (t : Nat) (ht : t ≤ M.keys.length) (i : Nat) (hi : i < M.sure.length) :
    (crashTo M ks t).getD i 0 = M.sure.getD i 0 ∨ (crashTo M ks t).getD i 0 = (M.loose i).getD (M.sure.getD i 0) := by
  induction t with
  | zero => left; rfl
  | succ t ih =>
    unfold crashTo
    split
    · have hmem : M.keys.getD t 0 ∈ M.keys := by simp [show t < M.keys.length by omega]
      obtain ⟨v, hv⟩ := Option.isSome_iff_exists.1 ((mem_keys M hin _).1 hmem)
      have hr := hin _ v hv
      obtain ⟨j, hj⟩ : ∃ j : Nat, M.keys.getD t 0 = j := ⟨(M.keys.getD t 0).toNat, by omega⟩
      rw [hj] at hv ⊢
      by_cases e : j = i
      · subst e
        right
        rw [hv]
        simp [List.getD, crashTo_len, hi]
      · have : ((crashTo M ks t).set (j : Int).toNat ((M.loose (j : Int)).getD 0)).getD i 0 = (crashTo M ks t).getD i 0 := by
          simp [List.getD, e]
        rw [this]; exact ih (by omega)
    · exact ih (by omega)

theorem sureTo_len (M : Mem) (lf : Int → Bool) : (sureTo M lf).length = M.sure.length := by simp [sureTo]

/-! Steps, and each word for itself. -/

/-- A step: its kind (1 a store, 2 a flush, 3 a fence; 4: a word is evicted), its place, its value. -/
structure Stp where
  kind : Int
  at_ : Int
  v : Int

/-- What a step answers. -/
def Mem.ans (M : Mem) (s : Stp) : Int := if s.kind = 1 then M.errAt s.at_ else if s.kind = 2 then M.errAt s.at_ else if s.kind = 3 then M.err else 1
/-- The memory behind a step. -/
def Mem.act (M : Mem) (s : Stp) : Mem := if s.kind = 1 then M.store s.at_ s.v else if s.kind = 2 then M.flush s.at_ else if s.kind = 3 then M.fence else M

/-- One word: how it is sure, loose, on the way. -/
structure Wst where
  s : Int
  l : Option Int
  y : Option Int

/-- A word that is sure. -/
def Wst.sure (u : Int) : Wst := ⟨u, none, none⟩
def Mem.word (M : Mem) (k : Int) : Wst := ⟨M.sure.getD k.toNat 0, M.loose k, M.way k⟩

/-- What a step makes of the word k. -/
def stepW (k : Int) (x : Wst) (o : Stp) : Wst :=
  if o.kind = 1 then (if o.at_ = k then { x with l := some o.v } else x)
  else if o.kind = 2 then (if k / 8 = o.at_ / 8 ∧ x.l.isSome = true then { x with y := x.l } else x)
  else if o.kind = 3 then ⟨x.y.getD x.s, if x.y.isSome = true ∧ x.l = x.y then none else x.l, none⟩
  else if o.kind = 4 then (if o.at_ = k then (match x.l with | none => x | some v => ⟨v, none, none⟩) else x)
  else x

def runW (k : Int) (x : Wst) (ss : List Stp) : Wst := ss.foldl (stepW k) x
theorem runW_append (k : Int) (x : Wst) (a b : List Stp) : runW k x (a ++ b) = runW k (runW k x a) b := by simp [runW]
theorem runW_cons (k : Int) (x : Wst) (o : Stp) (b : List Stp) : runW k x (o :: b) = runW k (stepW k x o) b := rfl
theorem runW_nil (k : Int) (x : Wst) : runW k x [] = x := rfl

/-- Evicting, as a step. -/
def evStp (k : Int) : Stp := ⟨4, k, 0⟩
/-- A step, or an evicting. -/
def Mem.actE (M : Mem) (s : Stp) : Mem := if s.kind = 4 then M.evict s.at_ else M.act s

theorem act_len (M : Mem) (s : Stp) : (M.act s).sure.length = M.sure.length := by
  unfold Mem.act Mem.store Mem.flush Mem.fence
  split
  · split <;> simp [Mem.counted]
  · split
    · split <;> simp [Mem.counted]
    · split
      · split <;> simp [Mem.counted, fenceTo, sureTo]
      · rfl
theorem evict_len (M : Mem) (k : Int) : (M.evict k).sure.length = M.sure.length := by
  unfold Mem.evict; split <;> simp
theorem actE_len (M : Mem) (s : Stp) : (M.actE s).sure.length = M.sure.length := by
  unfold Mem.actE; split
  · exact evict_len _ _
  · exact act_len _ _

/-- A step that is answered well does to each word what it does to a word. -/
theorem act_word (M : Mem) (s : Stp) (h : M.ans s = 0) (k : Nat) (hk : k < M.sure.length) : (M.act s).word k = stepW k (M.word k) s := by
  unfold Mem.ans at h
  unfold Mem.act stepW
  by_cases h1 : s.kind = 1
  · rw [if_pos h1] at h
    rw [if_pos h1, if_pos h1]
    unfold Mem.store
    rw [if_pos h]
    by_cases e : s.at_ = k
    · rw [if_pos e]; simp [Mem.word, Mem.counted, upd, e]
    · rw [if_neg e]
      have : ¬ (k : Int) = s.at_ := fun x => e x.symm
      simp [Mem.word, Mem.counted, upd, this]
  · rw [if_neg h1] at h
    rw [if_neg h1, if_neg h1]
    by_cases h2 : s.kind = 2
    · rw [if_pos h2] at h
      rw [if_pos h2, if_pos h2]
      unfold Mem.flush
      rw [if_pos h]
      by_cases e : (k : Int) / 8 = s.at_ / 8 ∧ (M.word k).l.isSome = true
      · rw [if_pos e]
        have e' : (k : Int) / 8 = s.at_ / 8 ∧ (M.loose k).isSome = true := e
        simp only [Mem.word, Mem.counted, wayOf]
        rw [if_pos e']
      · rw [if_neg e]
        have e' : ¬ ((k : Int) / 8 = s.at_ / 8 ∧ (M.loose k).isSome = true) := e
        simp only [Mem.word, Mem.counted, wayOf]
        rw [if_neg e']
    · rw [if_neg h2] at h
      rw [if_neg h2, if_neg h2]
      by_cases h3 : s.kind = 3
      · rw [if_pos h3] at h
        rw [if_pos h3, if_pos h3]
        unfold Mem.fence
        rw [if_pos h]
        simp [Mem.word, fenceTo, sureTo, looseTo, hk]
      · rw [if_neg h3] at h; exact absurd h (by decide)

theorem evict_word (M : Mem) (j : Int) (k : Nat) (hk : k < M.sure.length) (hin : ∀ k v, M.loose k = some v → 0 ≤ k ∧ k < M.sure.length) : (M.evict j).word k = stepW k (M.word k) (evStp j) := by
  unfold Mem.evict stepW evStp
  simp only [show ¬ (4 : Int) = 1 by decide, show ¬ (4 : Int) = 2 by decide, show ¬ (4 : Int) = 3 by decide, if_false, if_true]
  cases hl : M.loose j with
  | none =>
    by_cases e : j = k
    · subst e; rw [if_pos rfl]; simp [Mem.word, hl]
    · rw [if_neg e]
  | some v =>
    have := hin j v hl
    by_cases e : j = k
    · subst e; rw [if_pos rfl]; simp [Mem.word, hl, upd, hk]
    · rw [if_neg e]
      have e2 : ¬ (k : Int) = j := fun x => e x.symm
      have e3 : ¬ j.toNat = k := by omega
      simp [Mem.word, upd, e2, e3]

/-- A step that is refused leaves each word. -/
theorem act_word_err (M : Mem) (s : Stp) (h : M.ans s ≠ 0) (k : Int) : (M.act s).word k = M.word k := by
  unfold Mem.ans at h
  unfold Mem.act
  by_cases h1 : s.kind = 1
  · rw [if_pos h1] at h
    rw [if_pos h1]; unfold Mem.store; rw [if_neg h]; rfl
  · rw [if_neg h1] at h
    rw [if_neg h1]
    by_cases h2 : s.kind = 2
    · rw [if_pos h2] at h
      rw [if_pos h2]; unfold Mem.flush; rw [if_neg h]; rfl
    · rw [if_neg h2] at h
      rw [if_neg h2]
      by_cases h3 : s.kind = 3
      · rw [if_pos h3] at h
        rw [if_pos h3]; unfold Mem.fence; rw [if_neg h]; rfl
      · rw [if_neg h3]

/-- Loose words are words of the memory. -/
def Mem.In (M : Mem) : Prop := ∀ k v, M.loose k = some v → 0 ≤ k ∧ k < M.sure.length

theorem act_in (M : Mem) (s : Stp) (h : M.In) : (M.act s).In := by
  intro k v hv
  rw [act_len]
  unfold Mem.act at hv
  by_cases h1 : s.kind = 1
  · rw [if_pos h1] at hv
    unfold Mem.store at hv
    by_cases e : M.errAt s.at_ = 0
    · rw [if_pos e] at hv
      by_cases e2 : k = s.at_
      · rcases errAt_cases M s.at_ with x | x | ⟨_, x⟩
        · rw [x] at e; cases e
        · rw [x] at e; cases e
        · subst e2; simpa [Mem.has] using x
      · have : M.loose k = some v := by simpa [Mem.counted, upd, e2] using hv
        exact h k v this
    · rw [if_neg e] at hv; exact h k v hv
  · rw [if_neg h1] at hv
    by_cases h2 : s.kind = 2
    · rw [if_pos h2] at hv
      unfold Mem.flush at hv
      split at hv <;> exact h k v hv
    · rw [if_neg h2] at hv
      by_cases h3 : s.kind = 3
      · rw [if_pos h3] at hv
        unfold Mem.fence at hv
        split at hv
        · have hv' : looseTo M (fun _ => false) k = some v := hv
          unfold looseTo at hv'
          split at hv'
          · cases hv'
          · exact h k v hv'
        · exact h k v hv
      · rw [if_neg h3] at hv; exact h k v hv
theorem evict_in (M : Mem) (j : Int) (h : M.In) : (M.evict j).In := by
  intro k v hv
  rw [evict_len]
  unfold Mem.evict at hv
  split at hv
  · exact h k v hv
  · by_cases e : k = j
    · subst e; simp [upd] at hv
    · have : M.loose k = some v := by simpa [upd, e] using hv
      exact h k v this

/-- A crash makes each word sure, as it was sure or as it read. -/
theorem crash_word (M : Mem) (ks : List Bool) (h : M.In) (k : Nat) (hk : k < M.sure.length) : (M.crash ks).word k = Wst.sure (M.word k).s ∨ (M.crash ks).word k = Wst.sure ((M.word k).l.getD (M.word k).s) := by
  have := crashTo_or M ks h M.keys.length (Nat.le_refl _) k hk
  unfold Mem.crash Mem.word Wst.sure
  simp only [Int.toNat_natCast]
  rcases this with e | e
  · left; rw [e]
  · right; rw [e]
theorem crash_len (M : Mem) (ks : List Bool) : (M.crash ks).sure.length = M.sure.length := crashTo_len M ks _
theorem crash_in (M : Mem) (ks : List Bool) : (M.crash ks).In := fun _ _ h => by cases h

/-! Words that are stored once, flushed, fenced. -/

/-- A word that was sure as u and is to be v: stored, it may be sure already. -/
def Wst.May (u v : Int) (x : Wst) : Prop := x = .sure v ∨ x.l = some v ∧ (x.y = none ∨ x.y = some v) ∧ (x.s = u ∨ x.s = v)
/-- It is on the way, or sure. -/
def Wst.Way (u v : Int) (x : Wst) : Prop := x = .sure v ∨ x.l = some v ∧ x.y = some v ∧ (x.s = u ∨ x.s = v)

/-- The step stores the word k. -/
def Stp.puts (k : Int) (o : Stp) : Bool := decide (o.kind = 1) && decide (o.at_ = k)

theorem step_sure (k u : Int) (o : Stp) (h : o.puts k = false) : stepW k (.sure u) o = .sure u := by
  unfold stepW Wst.sure
  by_cases h1 : o.kind = 1
  · have : ¬ o.at_ = k := by simpa [Stp.puts, h1] using h
    simp [h1, this]
  · by_cases h2 : o.kind = 2
    · simp [h2]
    · by_cases h3 : o.kind = 3
      · simp [h3]
      · by_cases h4 : o.kind = 4
        · simp [h4]
        · simp [h1, h2, h3, h4]
theorem run_sure (k u : Int) (ss : List Stp) (h : ∀ o ∈ ss, o.puts k = false) : runW k (.sure u) ss = .sure u := by
  induction ss with
  | nil => rfl
  | cons o ss ih => rw [runW_cons, step_sure k u o (h o (by simp))]; exact ih fun x hx => h x (by simp [hx])

theorem step_store (k u : Int) (o : Stp) (h : o.puts k = true) : Wst.May u o.v (stepW k (.sure u) o) := by
  have : o.kind = 1 ∧ o.at_ = k := by simpa [Stp.puts] using h
  unfold stepW Wst.sure
  simp [this, Wst.May]

theorem step_may {k u v : Int} {x : Wst} (o : Stp) (h : Wst.May u v x) (ho : o.puts k = false) : Wst.May u v (stepW k x o) := by
  rcases h with rfl | ⟨h1, h2, h3⟩
  · left; exact step_sure k v o ho
  · obtain ⟨s, l, y⟩ := x
    simp only at h1 h2 h3
    subst h1
    unfold stepW
    by_cases k1 : o.kind = 1
    · have : ¬ o.at_ = k := by simpa [Stp.puts, k1] using ho
      right; simp [k1, this, h2, h3]
    · by_cases k2 : o.kind = 2
      · right
        by_cases e : k / 8 = o.at_ / 8
        · simp [k2, e, h3]
        · simp [k2, e, h2, h3]
      · by_cases k3 : o.kind = 3
        · rcases h2 with rfl | rfl
          · right; simp [k3, h3]
          · left; simp [k3, Wst.sure]
        · by_cases k4 : o.kind = 4
          · by_cases e : o.at_ = k
            · left; simp [k4, e, Wst.sure]
            · right; simp [k4, e, h2, h3]
          · right; simp [k1, k2, k3, k4, h2, h3]
theorem run_may {k u v : Int} {x : Wst} (ss : List Stp) (h : Wst.May u v x) (hs : ∀ o ∈ ss, o.puts k = false) : Wst.May u v (runW k x ss) := by
  induction ss generalizing x with
  | nil => exact h
  | cons o ss ih => rw [runW_cons]; exact ih (step_may o h (hs o (by simp))) fun z hz => hs z (by simp [hz])

theorem step_way {k u v : Int} {x : Wst} (o : Stp) (h : Wst.Way u v x) (ho : o.puts k = false) : Wst.Way u v (stepW k x o) := by
  rcases h with rfl | ⟨h1, h2, h3⟩
  · left; exact step_sure k v o ho
  · obtain ⟨s, l, y⟩ := x
    simp only at h1 h2 h3
    subst h1 h2
    unfold stepW
    by_cases k1 : o.kind = 1
    · have : ¬ o.at_ = k := by simpa [Stp.puts, k1] using ho
      right; simp [k1, this, h3]
    · by_cases k2 : o.kind = 2
      · right
        by_cases e : k / 8 = o.at_ / 8
        · simp [k2, e, h3]
        · simp [k2, e, h3]
      · by_cases k3 : o.kind = 3
        · left; simp [k3, Wst.sure]
        · by_cases k4 : o.kind = 4
          · by_cases e : o.at_ = k
            · left; simp [k4, e, Wst.sure]
            · right; simp [k4, e, h3]
          · right; simp [k1, k2, k3, k4, h3]
theorem run_way {k u v : Int} {x : Wst} (ss : List Stp) (h : Wst.Way u v x) (hs : ∀ o ∈ ss, o.puts k = false) : Wst.Way u v (runW k x ss) := by
  induction ss generalizing x with
  | nil => exact h
  | cons o ss ih => rw [runW_cons]; exact ih (step_way o h (hs o (by simp))) fun z hz => hs z (by simp [hz])

theorem step_flush {k u v : Int} {x : Wst} (o : Stp) (h : Wst.May u v x) (ho : o.kind = 2) (ha : k / 8 = o.at_ / 8) : Wst.Way u v (stepW k x o) := by
  rcases h with rfl | ⟨h1, h2, h3⟩
  · left; exact step_sure k v o (by simp [Stp.puts, ho])
  · right; unfold stepW; simp [ho, ha, h1, h3]
theorem step_fence {k u v : Int} {x : Wst} (o : Stp) (h : Wst.Way u v x) (ho : o.kind = 3) : stepW k x o = .sure v := by
  rcases h with rfl | ⟨h1, h2, h3⟩
  · exact step_sure k v o (by simp [Stp.puts, ho])
  · unfold stepW; simp [ho, h1, h2, Wst.sure]

/-- A word that is stored once, then flushed, then fenced, is sure as it was stored. -/
theorem run_once {k u v : Int} (ss : List Stp) (f : Stp) (hf : f.kind = 2) (hfa : k / 8 = f.at_ / 8) (n : Stp) (hn : n.kind = 3)
    (hsub : List.Sublist [⟨1, k, v⟩, f, n] ss) (hone : ss.filter (Stp.puts k) = [⟨1, k, v⟩]) : runW k (.sure u) ss = .sure v := by
  obtain ⟨r1, r2, rfl, m1, hs2⟩ := List.cons_sublist_iff.1 hsub
  obtain ⟨a, b, rfl⟩ := List.append_of_mem m1
  have hp : Stp.puts k ⟨1, k, v⟩ = true := by simp [Stp.puts]
  rw [List.filter_append, List.filter_append, List.filter_cons_of_pos hp] at hone
  have ha : a.filter (Stp.puts k) = [] := by
    cases hc : a.filter (Stp.puts k) with
    | nil => rfl
    | cons z zs => rw [hc] at hone; have := congrArg List.length hone; simp at this
  rw [ha] at hone
  have hbr : b.filter (Stp.puts k) = [] ∧ r2.filter (Stp.puts k) = [] := by simpa using hone
  have na : ∀ o ∈ a, o.puts k = false := fun o ho => by simpa using List.filter_eq_nil_iff.1 ha o ho
  have nb : ∀ o ∈ b, o.puts k = false := fun o ho => by simpa using List.filter_eq_nil_iff.1 hbr.1 o ho
  have nr : ∀ o ∈ r2, o.puts k = false := fun o ho => by simpa using List.filter_eq_nil_iff.1 hbr.2 o ho
  obtain ⟨q1, q2, rfl, m2, hs3⟩ := List.cons_sublist_iff.1 hs2
  obtain ⟨c, d, rfl⟩ := List.append_of_mem m2
  obtain ⟨e, g, rfl⟩ := List.append_of_mem (List.singleton_sublist.1 hs3)
  have nc : ∀ o ∈ c, o.puts k = false := fun o ho => nr o (by simp [ho])
  have nd : ∀ o ∈ d, o.puts k = false := fun o ho => nr o (by simp [ho])
  have ne : ∀ o ∈ e, o.puts k = false := fun o ho => nr o (by simp [ho])
  have ng : ∀ o ∈ g, o.puts k = false := fun o ho => nr o (by simp [ho])
  simp only [runW_append, runW_cons]
  rw [run_sure k u a na]
  have s1 : Wst.May u v (stepW k (.sure u) ⟨1, k, v⟩) := step_store k u _ hp
  have s2 := run_may b s1 nb
  have s3 := run_may c s2 nc
  have s4 : Wst.Way u v _ := step_flush f s3 hf hfa
  have s5 := run_way d s4 nd
  have s6 := run_way e s5 ne
  rw [step_fence n s6 hn]
  exact run_sure k v g ng

/-- A word that is stored at most once may be as it was, or as it was stored. -/
theorem run_most {k u v : Int} (ss : List Stp) (hone : ss.filter (Stp.puts k) = [] ∨ ss.filter (Stp.puts k) = [⟨1, k, v⟩]) : runW k (.sure u) ss = .sure u ∨ Wst.May u v (runW k (.sure u) ss) := by
  rcases hone with h | h
  · left; exact run_sure k u ss fun o ho => by simpa using List.filter_eq_nil_iff.1 h o ho
  · right
    have hm : (⟨1, k, v⟩ : Stp) ∈ ss := by
      have : (⟨1, k, v⟩ : Stp) ∈ ss.filter (Stp.puts k) := by rw [h]; simp
      exact (List.mem_filter.1 this).1
    obtain ⟨a, b, rfl⟩ := List.append_of_mem hm
    have hp : Stp.puts k ⟨1, k, v⟩ = true := by simp [Stp.puts]
    rw [List.filter_append, List.filter_cons_of_pos hp] at h
    have ha : a.filter (Stp.puts k) = [] := by
      cases hc : a.filter (Stp.puts k) with
      | nil => rfl
      | cons z zs => rw [hc] at h; have := congrArg List.length h; simp at this
    rw [ha] at h
    have hb : b.filter (Stp.puts k) = [] := by simpa using h
    rw [runW_append, run_sure k u a fun o ho => by simpa using List.filter_eq_nil_iff.1 ha o ho, runW_cons]
    exact run_may b (step_store k u _ hp) fun o ho => by simpa using List.filter_eq_nil_iff.1 hb o ho

theorem May.crashed {u v : Int} {x : Wst} (h : Wst.May u v x) : (x.s = u ∨ x.s = v) ∧ x.l.getD x.s = v := by
  rcases h with rfl | ⟨h1, _, h3⟩
  · exact ⟨.inr rfl, rfl⟩
  · rw [h1]; exact ⟨h3, rfl⟩

/-- The answer of steps done one behind the other, and the memory, till one is refused. -/
def runP : Mem → List Stp → Mem × Int
  | M, [] => (M, 0)
  | M, s :: ss => if M.ans s = 0 then runP (M.act s) ss else (M.act s, M.ans s)

theorem runP_len (M : Mem) (ss : List Stp) : (runP M ss).1.sure.length = M.sure.length := by
  induction ss generalizing M with
  | nil => rfl
  | cons s ss ih => unfold runP; split; · rw [ih, act_len]
                    · exact act_len _ _
theorem runP_in (M : Mem) (ss : List Stp) (h : M.In) : (runP M ss).1.In := by
  induction ss generalizing M with
  | nil => exact h
  | cons s ss ih => unfold runP; split; · exact ih _ (act_in _ _ h)
                    · exact act_in _ _ h
/-- Steps till one is refused: those of a beginning were done. -/
theorem runP_words (M : Mem) (ss : List Stp) : ∃ n, n ≤ ss.length ∧ ((runP M ss).2 = 0 → n = ss.length) ∧ ∀ k : Nat, k < M.sure.length → (runP M ss).1.word k = runW k (M.word k) (ss.take n) := by
  induction ss generalizing M with
  | nil => exact ⟨0, Nat.le_refl _, fun _ => rfl, fun k _ => rfl⟩
  | cons s ss ih =>
    unfold runP
    by_cases h : M.ans s = 0
    · rw [if_pos h]
      obtain ⟨n, h1, h2, h3⟩ := ih (M.act s)
      refine ⟨n + 1, by simp; omega, fun e => by simp [h2 e], fun k hk => ?_⟩
      rw [h3 k (by rw [act_len]; exact hk), List.take_succ_cons, runW_cons, act_word M s h k hk]
    · rw [if_neg h]
      exact ⟨0, Nat.zero_le _, fun e => absurd e h, fun k hk => by rw [act_word_err M s h]; rfl⟩

theorem act_calls (M : Mem) (s : Stp) : (M.act s).calls ≤ M.calls + 1 := by
  unfold Mem.act Mem.store Mem.flush Mem.fence
  split
  · split <;> simp [Mem.counted]
  · split
    · split <;> simp [Mem.counted]
    · split
      · split <;> simp [Mem.counted, fenceTo]
      · omega
theorem runP_calls (M : Mem) (ss : List Stp) : (runP M ss).1.calls ≤ M.calls + ss.length := by
  induction ss generalizing M with
  | nil => exact Nat.le_refl _
  | cons s ss ih =>
    unfold runP
    have := act_calls M s
    split
    · have := ih (M.act s); simp; omega
    · simp; omega
theorem act_stops (M : Mem) (s : Stp) : (M.act s).stops = M.stops ∧ (M.act s).stopAt = M.stopAt := by
  unfold Mem.act Mem.store Mem.flush Mem.fence
  split
  · split <;> exact ⟨rfl, rfl⟩
  · split
    · split <;> exact ⟨rfl, rfl⟩
    · split
      · split <;> exact ⟨rfl, rfl⟩
      · exact ⟨rfl, rfl⟩

/-- A step that may be: of a kind that is, at a word that is. -/
def Stp.fits (n : Nat) (s : Stp) : Prop := (s.kind = 1 ∨ s.kind = 2) ∧ 0 ≤ s.at_ ∧ s.at_ < n ∨ s.kind = 3

theorem ans_of (M : Mem) (s : Stp) (h : s.fits M.sure.length) : M.ans s = M.err := by
  unfold Mem.ans
  rcases h with ⟨hk, h0, h1⟩ | hk
  · have hh : M.has s.at_ = true := by simp [Mem.has, h0, h1]
    have : M.errAt s.at_ = M.err := by unfold Mem.errAt Mem.err; simp [hh]
    rcases hk with hk | hk <;> simp [hk, this]
  · simp [hk]
theorem err_free (M : Mem) (h : M.stops = false) : M.err = 0 := by simp [Mem.err, Mem.still, h]

/-- Where it doesn't stand still, all steps are done. -/
theorem runP_free (M : Mem) (ss : List Stp) (h : M.stops = false) (hf : ∀ s ∈ ss, s.fits M.sure.length) : (runP M ss).2 = 0 := by
  induction ss generalizing M with
  | nil => rfl
  | cons s ss ih =>
    unfold runP
    rw [if_pos (by rw [ans_of M s (hf s (by simp)), err_free M h])]
    exact ih _ ((act_stops M s).1.trans h) fun x hx => by rw [act_len]; exact hf x (by simp [hx])
/-- Of steps that may be, one is refused only where the memory stands still. -/
theorem runP_or (M : Mem) (ss : List Stp) (hf : ∀ s ∈ ss, s.fits M.sure.length) : (runP M ss).2 = 0 ∨ (runP M ss).2 = 14 := by
  induction ss generalizing M with
  | nil => exact .inl rfl
  | cons s ss ih =>
    unfold runP
    have := ans_of M s (hf s (by simp))
    split
    · exact ih _ fun x hx => by rw [act_len]; exact hf x (by simp [hx])
    · rename_i h
      rw [this] at h ⊢
      unfold Mem.err at h ⊢
      split
      · exact .inr rfl
      · rename_i e; rw [if_neg e] at h; exact absurd rfl h

end Go.Proofs.Ytdjnkibnnjobpaa
