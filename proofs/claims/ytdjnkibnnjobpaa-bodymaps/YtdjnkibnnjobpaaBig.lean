/- The base: memory, plan, cards, view, store, image, in one text. -/
import Derived.WalkKit
import Derived.Test.YtdjnkibnnjobpaaProg
import Derived.Maps.RangeWalk
import Derived.Laws.OwnMore
import Derived.BigQuiet
import Derived.WalkLawsBesides
import Derived.Laws.CopyOwn
import Derived.OwnWalk
import Derived.Lib.SliceRun
import Derived.Shelf.SlIter.Collect
import Derived.WideKeyEntry
import Derived.Laws.MakeOwn
import Derived.Laws.StructEq
import Derived.Laws.IdiomCopy
import Derived.ChangeKeysEq
import Derived.Handy
import Derived.Deep.RegionHeld3
import Derived.Deep.RegionWith
import Derived.Laws.ResultCell

namespace Go.Proofs.Ytdjnkibnnjobpaa

/-- A function with one value changed. -/
def upd (f : Int → Option Int) (k : Int) (x : Option Int) : Int → Option Int := fun j => if j = k then x else f j

theorem upd_same (f : Int → Option Int) (k : Int) (x : Option Int) : upd f k x k = x := by simp [upd]
theorem upd_other (f : Int → Option Int) {k j : Int} (x : Option Int) (h : j ≠ k) : upd f k x j = f j := by simp [upd, h]

/-- A memory: its sure words, its loose words, what is on the way, how many calls, and where it stands still. -/
structure Mem where
  sure : List Int
  loose : Int → Option Int
  way : Int → Option Int
  calls : Nat
  stops : Bool
  stopAt : Int

/-- Does the memory stand still? -/
def Mem.still (M : Mem) : Bool := M.stops && decide (M.stopAt ≤ M.calls)
/-- One call more. -/
def Mem.counted (M : Mem) : Mem := { M with calls := M.calls + 1 }
/-- Is there such a word? -/
def Mem.has (M : Mem) (k : Int) : Bool := decide (0 ≤ k) && decide (k < M.sure.length)
/-- What a call that counts answers. -/
def Mem.err (M : Mem) : Int := if M.still then 14 else 0
/-- What a call that counts and names a word answers. -/
def Mem.errAt (M : Mem) (k : Int) : Int := if M.still then 14 else if M.has k then 0 else 1
/-- The memory behind a Store. -/
def Mem.store (M : Mem) (k v : Int) : Mem := if M.errAt k = 0 then { M.counted with loose := upd M.loose k (some v) } else M.counted
/-- How a word reads. -/
def Mem.read (M : Mem) (k : Int) : Int := if M.has k then (M.loose k).getD (M.sure.getD k.toNat 0) else 0
/-- What is on the way behind a flush of line q. -/
def wayOf (M : Mem) (q : Int) : Int → Option Int := fun k => if k / 8 = q ∧ (M.loose k).isSome = true then M.loose k else M.way k
/-- The memory behind a Flush. -/
def Mem.flush (M : Mem) (k : Int) : Mem := if M.errAt k = 0 then { M.counted with way := wayOf M (k / 8) } else M.counted
/-- The memory behind an Evict. -/
def Mem.evict (M : Mem) (k : Int) : Mem := match M.loose k with
  | none => M
  | some v => { M with sure := M.sure.set k.toNat v, loose := upd M.loose k none, way := upd M.way k none }
/-- The memory behind a Stop. -/
def Mem.stop (M : Mem) (n : Int) : Mem := if 0 ≤ n ∧ n ≤ 1099511627776 then { M with stops := true, stopAt := M.calls + n } else { M with stops := false, stopAt := 0 }
/-- The sure words when those on the way have been made sure whose mark is down. -/
def sureTo (M : Mem) (lf : Int → Bool) : List Int := (List.range M.sure.length).map fun (i : Nat) => if lf i = false then (M.way i).getD (M.sure.getD i 0) else M.sure.getD i 0
/-- The loose words then. -/
def looseTo (M : Mem) (lf : Int → Bool) : Int → Option Int := fun k => if lf k = false ∧ (M.way k).isSome = true ∧ M.loose k = M.way k then none else M.loose k
def fenceTo (M : Mem) (lf : Int → Bool) : Mem := { M.counted with sure := sureTo M lf, loose := looseTo M lf }
/-- The memory behind a Fence. -/
def Mem.fence (M : Mem) : Mem := if M.err = 0 then { fenceTo M (fun _ => false) with way := fun _ => none } else M.counted
/-- The loose words' places, in order. -/
def Mem.keys (M : Mem) : List Int := ((List.range M.sure.length).filter fun (i : Nat) => (M.loose i).isSome).map Int.ofNat
/-- All words as they read. -/
def Mem.image (M : Mem) : List Int := (List.range M.sure.length).map fun (i : Nat) => M.read i
/-- A memory whose words are xs, all sure. -/
def fresh (xs : List Int) : Mem := ⟨xs, fun _ => none, fun _ => none, 0, false, 0⟩
/-- Is the t-th loose word kept? -/
def kept (ks : List Bool) (t : Nat) : Bool := !ks.isEmpty && ks.getD (t % ks.length) false
/-- The sure words when t loose words have been looked at. -/
def crashTo (M : Mem) (ks : List Bool) : Nat → List Int
  | 0 => M.sure
  | t + 1 => if kept ks t then (crashTo M ks t).set (M.keys.getD t 0).toNat ((M.loose (M.keys.getD t 0)).getD 0) else crashTo M ks t
/-- The memory behind a Crash. -/
def Mem.crash (M : Mem) (ks : List Bool) : Mem := { M with sure := crashTo M ks M.keys.length, loose := fun _ => none, way := fun _ => none, stops := false, stopAt := 0 }

theorem errAt_cases (M : Mem) (k : Int) : M.errAt k = 14 ∨ M.errAt k = 1 ∨ M.errAt k = 0 ∧ M.has k = true := by
  unfold Mem.errAt
  by_cases h1 : M.still = true
  · simp [h1]
  · by_cases h2 : M.has k = true
    · simp [h1, h2]
    · simp [h1, h2]

theorem mem_keys (M : Mem) (hin : ∀ k v, M.loose k = some v → 0 ≤ k ∧ k < M.sure.length) (x : Int) : x ∈ M.keys ↔ (M.loose x).isSome = true := by
  unfold Mem.keys
  constructor
  · intro h
    obtain ⟨i, hi, rfl⟩ := List.mem_map.1 h
    exact (List.mem_filter.1 hi).2
  · intro h
    obtain ⟨v, hv⟩ := Option.isSome_iff_exists.1 h
    have := hin x v hv
    refine List.mem_map.2 ⟨x.toNat, List.mem_filter.2 ⟨List.mem_range.2 (by omega), ?_⟩, ?_⟩
    · have e : ((x.toNat : Nat) : Int) = x := by omega
      rw [e]; exact h
    · show ((x.toNat : Nat) : Int) = x; omega

theorem keys_rising (M : Mem) : M.keys.Pairwise (fun a b => a < b) := by
  unfold Mem.keys
  refine List.pairwise_map.2 ?_
  refine (List.Pairwise.filter _ List.pairwise_lt_range).imp ?_
  intro a b h
  show (a : Int) < (b : Int)
  omega

theorem keys_len (M : Mem) : M.keys.length ≤ M.sure.length := by
  unfold Mem.keys
  rw [List.length_map]
  exact Nat.le_trans (List.length_filter_le _ _) (by simp)

theorem crashTo_len (M : Mem) (ks : List Bool) (t : Nat) : (crashTo M ks t).length = M.sure.length := by
  induction t with
  | zero => rfl
  | succ t ih => unfold crashTo; split <;> simp [ih]

theorem crashTo_or (M : Mem) (ks : List Bool) (hin : ∀ k v, M.loose k = some v → 0 ≤ k ∧ k < M.sure.length) (t : Nat) (ht : t ≤ M.keys.length) (i : Nat) (hi : i < M.sure.length) :
    (crashTo M ks t).getD i 0 = M.sure.getD i 0 ∨ (crashTo M ks t).getD i 0 = (M.loose i).getD (M.sure.getD i 0) := by
  induction t with
  | zero => left; rfl
  | succ t ih =>
    unfold crashTo
    split
    · have hmem : M.keys.getD t 0 ∈ M.keys := by simp [show t < M.keys.length by omega]
      obtain ⟨v, hv⟩ := Option.isSome_iff_exists.1 ((mem_keys M hin _).1 hmem)
      have hr := hin _ v hv
      obtain ⟨j, hj⟩ : ∃ j : Nat, M.keys.getD t 0 = j := ⟨(M.keys.getD t 0).toNat, by omega⟩
      rw [hj] at hv ⊢
      by_cases e : j = i
      · subst e
        right
        rw [hv]
        simp [List.getD, crashTo_len, hi]
      · have : ((crashTo M ks t).set (j : Int).toNat ((M.loose (j : Int)).getD 0)).getD i 0 = (crashTo M ks t).getD i 0 := by
          simp [List.getD, e]
        rw [this]; exact ih (by omega)
    · exact ih (by omega)

theorem sureTo_len (M : Mem) (lf : Int → Bool) : (sureTo M lf).length = M.sure.length := by simp [sureTo]

/-! Steps, and each word for itself. -/

/-- A step: its kind (1 a store, 2 a flush, 3 a fence; 4: a word is evicted), its place, its value. -/
structure Stp where
  kind : Int
  at_ : Int
  v : Int

/-- What a step answers. -/
def Mem.ans (M : Mem) (s : Stp) : Int := if s.kind = 1 then M.errAt s.at_ else if s.kind = 2 then M.errAt s.at_ else if s.kind = 3 then M.err else 1
/-- The memory behind a step. -/
def Mem.act (M : Mem) (s : Stp) : Mem := if s.kind = 1 then M.store s.at_ s.v else if s.kind = 2 then M.flush s.at_ else if s.kind = 3 then M.fence else M

/-- One word: how it is sure, loose, on the way. -/
structure Wst where
  s : Int
  l : Option Int
  y : Option Int

/-- A word that is sure. -/
def Wst.sure (u : Int) : Wst := ⟨u, none, none⟩
def Mem.word (M : Mem) (k : Int) : Wst := ⟨M.sure.getD k.toNat 0, M.loose k, M.way k⟩

/-- What a step makes of the word k. -/
def stepW (k : Int) (x : Wst) (o : Stp) : Wst :=
  if o.kind = 1 then (if o.at_ = k then { x with l := some o.v } else x)
  else if o.kind = 2 then (if k / 8 = o.at_ / 8 ∧ x.l.isSome = true then { x with y := x.l } else x)
  else if o.kind = 3 then ⟨x.y.getD x.s, if x.y.isSome = true ∧ x.l = x.y then none else x.l, none⟩
  else if o.kind = 4 then (if o.at_ = k then (match x.l with | none => x | some v => ⟨v, none, none⟩) else x)
  else x

def runW (k : Int) (x : Wst) (ss : List Stp) : Wst := ss.foldl (stepW k) x
theorem runW_append (k : Int) (x : Wst) (a b : List Stp) : runW k x (a ++ b) = runW k (runW k x a) b := by simp [runW]
theorem runW_cons (k : Int) (x : Wst) (o : Stp) (b : List Stp) : runW k x (o :: b) = runW k (stepW k x o) b := rfl
theorem runW_nil (k : Int) (x : Wst) : runW k x [] = x := rfl

/-- Evicting, as a step. -/
def evStp (k : Int) : Stp := ⟨4, k, 0⟩
/-- A step, or an evicting. -/
def Mem.actE (M : Mem) (s : Stp) : Mem := if s.kind = 4 then M.evict s.at_ else M.act s

theorem act_len (M : Mem) (s : Stp) : (M.act s).sure.length = M.sure.length := by
  unfold Mem.act Mem.store Mem.flush Mem.fence
  split
  · split <;> simp [Mem.counted]
  · split
    · split <;> simp [Mem.counted]
    · split
      · split <;> simp [Mem.counted, fenceTo, sureTo]
      · rfl
theorem evict_len (M : Mem) (k : Int) : (M.evict k).sure.length = M.sure.length := by
  unfold Mem.evict; split <;> simp
theorem actE_len (M : Mem) (s : Stp) : (M.actE s).sure.length = M.sure.length := by
  unfold Mem.actE; split
  · exact evict_len _ _
  · exact act_len _ _

/-- A step that is answered well does to each word what it does to a word. -/
theorem act_word (M : Mem) (s : Stp) (h : M.ans s = 0) (k : Nat) (hk : k < M.sure.length) : (M.act s).word k = stepW k (M.word k) s := by
  unfold Mem.ans at h
  unfold Mem.act stepW
  by_cases h1 : s.kind = 1
  · rw [if_pos h1] at h
    rw [if_pos h1, if_pos h1]
    unfold Mem.store
    rw [if_pos h]
    by_cases e : s.at_ = k
    · rw [if_pos e]; simp [Mem.word, Mem.counted, upd, e]
    · rw [if_neg e]
      have : ¬ (k : Int) = s.at_ := fun x => e x.symm
      simp [Mem.word, Mem.counted, upd, this]
  · rw [if_neg h1] at h
    rw [if_neg h1, if_neg h1]
    by_cases h2 : s.kind = 2
    · rw [if_pos h2] at h
      rw [if_pos h2, if_pos h2]
      unfold Mem.flush
      rw [if_pos h]
      by_cases e : (k : Int) / 8 = s.at_ / 8 ∧ (M.word k).l.isSome = true
      · rw [if_pos e]
        have e' : (k : Int) / 8 = s.at_ / 8 ∧ (M.loose k).isSome = true := e
        simp only [Mem.word, Mem.counted, wayOf]
        rw [if_pos e']
      · rw [if_neg e]
        have e' : ¬ ((k : Int) / 8 = s.at_ / 8 ∧ (M.loose k).isSome = true) := e
        simp only [Mem.word, Mem.counted, wayOf]
        rw [if_neg e']
    · rw [if_neg h2] at h
      rw [if_neg h2, if_neg h2]
      by_cases h3 : s.kind = 3
      · rw [if_pos h3] at h
        rw [if_pos h3, if_pos h3]
        unfold Mem.fence
        rw [if_pos h]
        simp [Mem.word, fenceTo, sureTo, looseTo, hk]
      · rw [if_neg h3] at h; exact absurd h (by decide)

theorem evict_word (M : Mem) (j : Int) (k : Nat) (hk : k < M.sure.length) (hin : ∀ k v, M.loose k = some v → 0 ≤ k ∧ k < M.sure.length) : (M.evict j).word k = stepW k (M.word k) (evStp j) := by
  unfold Mem.evict stepW evStp
  simp only [show ¬ (4 : Int) = 1 by decide, show ¬ (4 : Int) = 2 by decide, show ¬ (4 : Int) = 3 by decide, if_false, if_true]
  cases hl : M.loose j with
  | none =>
    by_cases e : j = k
    · subst e; rw [if_pos rfl]; simp [Mem.word, hl]
    · rw [if_neg e]
  | some v =>
    have := hin j v hl
    by_cases e : j = k
    · subst e; rw [if_pos rfl]; simp [Mem.word, hl, upd, hk]
    · rw [if_neg e]
      have e2 : ¬ (k : Int) = j := fun x => e x.symm
      have e3 : ¬ j.toNat = k := by omega
      simp [Mem.word, upd, e2, e3]

/-- A step that is refused leaves each word. -/
theorem act_word_err (M : Mem) (s : Stp) (h : M.ans s ≠ 0) (k : Int) : (M.act s).word k = M.word k := by
  unfold Mem.ans at h
  unfold Mem.act
  by_cases h1 : s.kind = 1
  · rw [if_pos h1] at h
    rw [if_pos h1]; unfold Mem.store; rw [if_neg h]; rfl
  · rw [if_neg h1] at h
    rw [if_neg h1]
    by_cases h2 : s.kind = 2
    · rw [if_pos h2] at h
      rw [if_pos h2]; unfold Mem.flush; rw [if_neg h]; rfl
    · rw [if_neg h2] at h
      rw [if_neg h2]
      by_cases h3 : s.kind = 3
      · rw [if_pos h3] at h
        rw [if_pos h3]; unfold Mem.fence; rw [if_neg h]; rfl
      · rw [if_neg h3]

/-- Loose words are words of the memory. -/
def Mem.In (M : Mem) : Prop := ∀ k v, M.loose k = some v → 0 ≤ k ∧ k < M.sure.length

theorem act_in (M : Mem) (s : Stp) (h : M.In) : (M.act s).In := by
  intro k v hv
  rw [act_len]
  unfold Mem.act at hv
  by_cases h1 : s.kind = 1
  · rw [if_pos h1] at hv
    unfold Mem.store at hv
    by_cases e : M.errAt s.at_ = 0
    · rw [if_pos e] at hv
      by_cases e2 : k = s.at_
      · rcases errAt_cases M s.at_ with x | x | ⟨_, x⟩
        · rw [x] at e; cases e
        · rw [x] at e; cases e
        · subst e2; simpa [Mem.has] using x
      · have : M.loose k = some v := by simpa [Mem.counted, upd, e2] using hv
        exact h k v this
    · rw [if_neg e] at hv; exact h k v hv
  · rw [if_neg h1] at hv
    by_cases h2 : s.kind = 2
    · rw [if_pos h2] at hv
      unfold Mem.flush at hv
      split at hv <;> exact h k v hv
    · rw [if_neg h2] at hv
      by_cases h3 : s.kind = 3
      · rw [if_pos h3] at hv
        unfold Mem.fence at hv
        split at hv
        · have hv' : looseTo M (fun _ => false) k = some v := hv
          unfold looseTo at hv'
          split at hv'
          · cases hv'
          · exact h k v hv'
        · exact h k v hv
      · rw [if_neg h3] at hv; exact h k v hv
theorem evict_in (M : Mem) (j : Int) (h : M.In) : (M.evict j).In := by
  intro k v hv
  rw [evict_len]
  unfold Mem.evict at hv
  split at hv
  · exact h k v hv
  · by_cases e : k = j
    · subst e; simp [upd] at hv
    · have : M.loose k = some v := by simpa [upd, e] using hv
      exact h k v this

/-- A crash makes each word sure, as it was sure or as it read. -/
theorem crash_word (M : Mem) (ks : List Bool) (h : M.In) (k : Nat) (hk : k < M.sure.length) : (M.crash ks).word k = Wst.sure (M.word k).s ∨ (M.crash ks).word k = Wst.sure ((M.word k).l.getD (M.word k).s) := by
  have := crashTo_or M ks h M.keys.length (Nat.le_refl _) k hk
  unfold Mem.crash Mem.word Wst.sure
  simp only [Int.toNat_natCast]
  rcases this with e | e
  · left; rw [e]
  · right; rw [e]
theorem crash_len (M : Mem) (ks : List Bool) : (M.crash ks).sure.length = M.sure.length := crashTo_len M ks _
theorem crash_in (M : Mem) (ks : List Bool) : (M.crash ks).In := fun _ _ h => by cases h

/-! Words that are stored once, flushed, fenced. -/

/-- A word that was sure as u and is to be v: stored, it may be sure already. -/
def Wst.May (u v : Int) (x : Wst) : Prop := x = .sure v ∨ x.l = some v ∧ (x.y = none ∨ x.y = some v) ∧ (x.s = u ∨ x.s = v)
/-- It is on the way, or sure. -/
def Wst.Way (u v : Int) (x : Wst) : Prop := x = .sure v ∨ x.l = some v ∧ x.y = some v ∧ (x.s = u ∨ x.s = v)

/-- The step stores the word k. -/
def Stp.puts (k : Int) (o : Stp) : Bool := decide (o.kind = 1) && decide (o.at_ = k)

theorem step_sure (k u : Int) (o : Stp) (h : o.puts k = false) : stepW k (.sure u) o = .sure u := by
  unfold stepW Wst.sure
  by_cases h1 : o.kind = 1
  · have : ¬ o.at_ = k := by simpa [Stp.puts, h1] using h
    simp [h1, this]
  · by_cases h2 : o.kind = 2
    · simp [h2]
    · by_cases h3 : o.kind = 3
      · simp [h3]
      · by_cases h4 : o.kind = 4
        · simp [h4]
        · simp [h1, h2, h3, h4]
theorem run_sure (k u : Int) (ss : List Stp) (h : ∀ o ∈ ss, o.puts k = false) : runW k (.sure u) ss = .sure u := by
  induction ss with
  | nil => rfl
  | cons o ss ih => rw [runW_cons, step_sure k u o (h o (by simp))]; exact ih fun x hx => h x (by simp [hx])

theorem step_store (k u : Int) (o : Stp) (h : o.puts k = true) : Wst.May u o.v (stepW k (.sure u) o) := by
  have : o.kind = 1 ∧ o.at_ = k := by simpa [Stp.puts] using h
  unfold stepW Wst.sure
  simp [this, Wst.May]

theorem step_may {k u v : Int} {x : Wst} (o : Stp) (h : Wst.May u v x) (ho : o.puts k = false) : Wst.May u v (stepW k x o) := by
  rcases h with rfl | ⟨h1, h2, h3⟩
  · left; exact step_sure k v o ho
  · obtain ⟨s, l, y⟩ := x
    simp only at h1 h2 h3
    subst h1
    unfold stepW
    by_cases k1 : o.kind = 1
    · have : ¬ o.at_ = k := by simpa [Stp.puts, k1] using ho
      right; simp [k1, this, h2, h3]
    · by_cases k2 : o.kind = 2
      · right
        by_cases e : k / 8 = o.at_ / 8
        · simp [k2, e, h3]
        · simp [k2, e, h2, h3]
      · by_cases k3 : o.kind = 3
        · rcases h2 with rfl | rfl
          · right; simp [k3, h3]
          · left; simp [k3, Wst.sure]
        · by_cases k4 : o.kind = 4
          · by_cases e : o.at_ = k
            · left; simp [k4, e, Wst.sure]
            · right; simp [k4, e, h2, h3]
          · right; simp [k1, k2, k3, k4, h2, h3]
theorem run_may {k u v : Int} {x : Wst} (ss : List Stp) (h : Wst.May u v x) (hs : ∀ o ∈ ss, o.puts k = false) : Wst.May u v (runW k x ss) := by
  induction ss generalizing x with
  | nil => exact h
  | cons o ss ih => rw [runW_cons]; exact ih (step_may o h (hs o (by simp))) fun z hz => hs z (by simp [hz])

theorem step_way {k u v : Int} {x : Wst} (o : Stp) (h : Wst.Way u v x) (ho : o.puts k = false) : Wst.Way u v (stepW k x o) := by
  rcases h with rfl | ⟨h1, h2, h3⟩
  · left; exact step_sure k v o ho
  · obtain ⟨s, l, y⟩ := x
    simp only at h1 h2 h3
    subst h1 h2
    unfold stepW
    by_cases k1 : o.kind = 1
    · have : ¬ o.at_ = k := by simpa [Stp.puts, k1] using ho
      right; simp [k1, this, h3]
    · by_cases k2 : o.kind = 2
      · right
        by_cases e : k / 8 = o.at_ / 8
        · simp [k2, e, h3]
        · simp [k2, e, h3]
      · by_cases k3 : o.kind = 3
        · left; simp [k3, Wst.sure]
        · by_cases k4 : o.kind = 4
          · by_cases e : o.at_ = k
            · left; simp [k4, e, Wst.sure]
            · right; simp [k4, e, h3]
          · right; simp [k1, k2, k3, k4, h3]
theorem run_way {k u v : Int} {x : Wst} (ss : List Stp) (h : Wst.Way u v x) (hs : ∀ o ∈ ss, o.puts k = false) : Wst.Way u v (runW k x ss) := by
  induction ss generalizing x with
  | nil => exact h
  | cons o ss ih => rw [runW_cons]; exact ih (step_way o h (hs o (by simp))) fun z hz => hs z (by simp [hz])

theorem step_flush {k u v : Int} {x : Wst} (o : Stp) (h : Wst.May u v x) (ho : o.kind = 2) (ha : k / 8 = o.at_ / 8) : Wst.Way u v (stepW k x o) := by
  rcases h with rfl | ⟨h1, h2, h3⟩
  · left; exact step_sure k v o (by simp [Stp.puts, ho])
  · right; unfold stepW; simp [ho, ha, h1, h3]
theorem step_fence {k u v : Int} {x : Wst} (o : Stp) (h : Wst.Way u v x) (ho : o.kind = 3) : stepW k x o = .sure v := by
  rcases h with rfl | ⟨h1, h2, h3⟩
  · exact step_sure k v o (by simp [Stp.puts, ho])
  · unfold stepW; simp [ho, h1, h2, Wst.sure]

/-- A word that is stored once, then flushed, then fenced, is sure as it was stored. -/
theorem run_once {k u v : Int} (ss : List Stp) (f : Stp) (hf : f.kind = 2) (hfa : k / 8 = f.at_ / 8) (n : Stp) (hn : n.kind = 3)
    (hsub : List.Sublist [⟨1, k, v⟩, f, n] ss) (hone : ss.filter (Stp.puts k) = [⟨1, k, v⟩]) : runW k (.sure u) ss = .sure v := by
  obtain ⟨r1, r2, rfl, m1, hs2⟩ := List.cons_sublist_iff.1 hsub
  obtain ⟨a, b, rfl⟩ := List.append_of_mem m1
  have hp : Stp.puts k ⟨1, k, v⟩ = true := by simp [Stp.puts]
  rw [List.filter_append, List.filter_append, List.filter_cons_of_pos hp] at hone
  have ha : a.filter (Stp.puts k) = [] := by
    cases hc : a.filter (Stp.puts k) with
    | nil => rfl
    | cons z zs => rw [hc] at hone; have := congrArg List.length hone; simp at this
  rw [ha] at hone
  have hbr : b.filter (Stp.puts k) = [] ∧ r2.filter (Stp.puts k) = [] := by simpa using hone
  have na : ∀ o ∈ a, o.puts k = false := fun o ho => by simpa using List.filter_eq_nil_iff.1 ha o ho
  have nb : ∀ o ∈ b, o.puts k = false := fun o ho => by simpa using List.filter_eq_nil_iff.1 hbr.1 o ho
  have nr : ∀ o ∈ r2, o.puts k = false := fun o ho => by simpa using List.filter_eq_nil_iff.1 hbr.2 o ho
  obtain ⟨q1, q2, rfl, m2, hs3⟩ := List.cons_sublist_iff.1 hs2
  obtain ⟨c, d, rfl⟩ := List.append_of_mem m2
  obtain ⟨e, g, rfl⟩ := List.append_of_mem (List.singleton_sublist.1 hs3)
  have nc : ∀ o ∈ c, o.puts k = false := fun o ho => nr o (by simp [ho])
  have nd : ∀ o ∈ d, o.puts k = false := fun o ho => nr o (by simp [ho])
  have ne : ∀ o ∈ e, o.puts k = false := fun o ho => nr o (by simp [ho])
  have ng : ∀ o ∈ g, o.puts k = false := fun o ho => nr o (by simp [ho])
  simp only [runW_append, runW_cons]
  rw [run_sure k u a na]
  have s1 : Wst.May u v (stepW k (.sure u) ⟨1, k, v⟩) := step_store k u _ hp
  have s2 := run_may b s1 nb
  have s3 := run_may c s2 nc
  have s4 : Wst.Way u v _ := step_flush f s3 hf hfa
  have s5 := run_way d s4 nd
  have s6 := run_way e s5 ne
  rw [step_fence n s6 hn]
  exact run_sure k v g ng

/-- A word that is stored at most once may be as it was, or as it was stored. -/
theorem run_most {k u v : Int} (ss : List Stp) (hone : ss.filter (Stp.puts k) = [] ∨ ss.filter (Stp.puts k) = [⟨1, k, v⟩]) : runW k (.sure u) ss = .sure u ∨ Wst.May u v (runW k (.sure u) ss) := by
  rcases hone with h | h
  · left; exact run_sure k u ss fun o ho => by simpa using List.filter_eq_nil_iff.1 h o ho
  · right
    have hm : (⟨1, k, v⟩ : Stp) ∈ ss := by
      have : (⟨1, k, v⟩ : Stp) ∈ ss.filter (Stp.puts k) := by rw [h]; simp
      exact (List.mem_filter.1 this).1
    obtain ⟨a, b, rfl⟩ := List.append_of_mem hm
    have hp : Stp.puts k ⟨1, k, v⟩ = true := by simp [Stp.puts]
    rw [List.filter_append, List.filter_cons_of_pos hp] at h
    have ha : a.filter (Stp.puts k) = [] := by
      cases hc : a.filter (Stp.puts k) with
      | nil => rfl
      | cons z zs => rw [hc] at h; have := congrArg List.length h; simp at this
    rw [ha] at h
    have hb : b.filter (Stp.puts k) = [] := by simpa using h
    rw [runW_append, run_sure k u a fun o ho => by simpa using List.filter_eq_nil_iff.1 ha o ho, runW_cons]
    exact run_may b (step_store k u _ hp) fun o ho => by simpa using List.filter_eq_nil_iff.1 hb o ho

theorem May.crashed {u v : Int} {x : Wst} (h : Wst.May u v x) : (x.s = u ∨ x.s = v) ∧ x.l.getD x.s = v := by
  rcases h with rfl | ⟨h1, _, h3⟩
  · exact ⟨.inr rfl, rfl⟩
  · rw [h1]; exact ⟨h3, rfl⟩

/-- The answer of steps done one behind the other, and the memory, till one is refused. -/
def runP : Mem → List Stp → Mem × Int
  | M, [] => (M, 0)
  | M, s :: ss => if M.ans s = 0 then runP (M.act s) ss else (M.act s, M.ans s)

theorem runP_len (M : Mem) (ss : List Stp) : (runP M ss).1.sure.length = M.sure.length := by
  induction ss generalizing M with
  | nil => rfl
  | cons s ss ih => unfold runP; split; · rw [ih, act_len]
                    · exact act_len _ _
theorem runP_in (M : Mem) (ss : List Stp) (h : M.In) : (runP M ss).1.In := by
  induction ss generalizing M with
  | nil => exact h
  | cons s ss ih => unfold runP; split; · exact ih _ (act_in _ _ h)
                    · exact act_in _ _ h
/-- Steps till one is refused: those of a beginning were done. -/
theorem runP_words (M : Mem) (ss : List Stp) : ∃ n, n ≤ ss.length ∧ ((runP M ss).2 = 0 → n = ss.length) ∧ ∀ k : Nat, k < M.sure.length → (runP M ss).1.word k = runW k (M.word k) (ss.take n) := by
  induction ss generalizing M with
  | nil => exact ⟨0, Nat.le_refl _, fun _ => rfl, fun k _ => rfl⟩
  | cons s ss ih =>
    unfold runP
    by_cases h : M.ans s = 0
    · rw [if_pos h]
      obtain ⟨n, h1, h2, h3⟩ := ih (M.act s)
      refine ⟨n + 1, by simp; omega, fun e => by simp [h2 e], fun k hk => ?_⟩
      rw [h3 k (by rw [act_len]; exact hk), List.take_succ_cons, runW_cons, act_word M s h k hk]
    · rw [if_neg h]
      exact ⟨0, Nat.zero_le _, fun e => absurd e h, fun k hk => by rw [act_word_err M s h]; rfl⟩

theorem act_calls (M : Mem) (s : Stp) : (M.act s).calls ≤ M.calls + 1 := by
  unfold Mem.act Mem.store Mem.flush Mem.fence
  split
  · split <;> simp [Mem.counted]
  · split
    · split <;> simp [Mem.counted]
    · split
      · split <;> simp [Mem.counted, fenceTo]
      · omega
theorem runP_calls (M : Mem) (ss : List Stp) : (runP M ss).1.calls ≤ M.calls + ss.length := by
  induction ss generalizing M with
  | nil => exact Nat.le_refl _
  | cons s ss ih =>
    unfold runP
    have := act_calls M s
    split
    · have := ih (M.act s); simp; omega
    · simp; omega
theorem act_stops (M : Mem) (s : Stp) : (M.act s).stops = M.stops ∧ (M.act s).stopAt = M.stopAt := by
  unfold Mem.act Mem.store Mem.flush Mem.fence
  split
  · split <;> exact ⟨rfl, rfl⟩
  · split
    · split <;> exact ⟨rfl, rfl⟩
    · split
      · split <;> exact ⟨rfl, rfl⟩
      · exact ⟨rfl, rfl⟩

/-- A step that may be: of a kind that is, at a word that is. -/
def Stp.fits (n : Nat) (s : Stp) : Prop := (s.kind = 1 ∨ s.kind = 2) ∧ 0 ≤ s.at_ ∧ s.at_ < n ∨ s.kind = 3

theorem ans_of (M : Mem) (s : Stp) (h : s.fits M.sure.length) : M.ans s = M.err := by
  unfold Mem.ans
  rcases h with ⟨hk, h0, h1⟩ | hk
  · have hh : M.has s.at_ = true := by simp [Mem.has, h0, h1]
    have : M.errAt s.at_ = M.err := by unfold Mem.errAt Mem.err; simp [hh]
    rcases hk with hk | hk <;> simp [hk, this]
  · simp [hk]
theorem err_free (M : Mem) (h : M.stops = false) : M.err = 0 := by simp [Mem.err, Mem.still, h]

/-- Where it doesn't stand still, all steps are done. -/
theorem runP_free (M : Mem) (ss : List Stp) (h : M.stops = false) (hf : ∀ s ∈ ss, s.fits M.sure.length) : (runP M ss).2 = 0 := by
  induction ss generalizing M with
  | nil => rfl
  | cons s ss ih =>
    unfold runP
    rw [if_pos (by rw [ans_of M s (hf s (by simp)), err_free M h])]
    exact ih _ ((act_stops M s).1.trans h) fun x hx => by rw [act_len]; exact hf x (by simp [hx])
/-- Of steps that may be, one is refused only where the memory stands still. -/
theorem runP_or (M : Mem) (ss : List Stp) (hf : ∀ s ∈ ss, s.fits M.sure.length) : (runP M ss).2 = 0 ∨ (runP M ss).2 = 14 := by
  induction ss generalizing M with
  | nil => exact .inl rfl
  | cons s ss ih =>
    unfold runP
    have := ans_of M s (hf s (by simp))
    split
    · exact ih _ fun x hx => by rw [act_len]; exact hf x (by simp [hx])
    · rename_i h
      rw [this] at h ⊢
      unfold Mem.err at h ⊢
      split
      · exact .inr rfl
      · rename_i e; rw [if_neg e] at h; exact absurd rfl h

end Go.Proofs.Ytdjnkibnnjobpaa

namespace Go.Proofs.Ytdjnkibnnjobpaa
open Go.RowKit Go.Maps Go.ChangeMaps

theorem law3 : Keyed Try.prog 3 := int_keyed Try.underlying3
theorem zero22 (w : World) : (zeroValue 23).run Try.prog w = .ok (.int .u64 0) w := by kernel_rfl

/-- The datum D holds just what f says. -/
def MapReads (D : DataW Unit) (f : Int → Option Int) : Prop :=
  ∀ k : Int, Maps.has D (.int .i64 k) = (f k).isSome ∧ ∀ v, f k = some v → ∀ zd, D.atKey (.int .i64 k) zd = .lit (.int .u64 v)

/-- Block b is a map of at most n entries that holds just what f says. -/
def MapIs (w : World) (b n : Nat) (f : Int → Option Int) : Prop :=
  ∃ D : DataW Unit, w.ownsMap Try.prog 3 (plainElem Try.prog 23) b n D ∧ MapReads D f

theorem key_ne {j k : Int} (h : j ≠ k) : (Lit.int .i64 j) ≠ (Lit.int .i64 k) := fun e => h (by cases e; rfl)

theorem reads_empty : MapReads (.map []) (fun _ => none) := fun _ => ⟨rfl, fun _ h => by cases h⟩

theorem reads_put {D : DataW Unit} {f : Int → Option Int} (h : MapReads D f) (hD : IsMap D) (k v : Int) : MapReads (D.put (.int .i64 k) (.lit (.int .u64 v))) (upd f k (some v)) := by
  intro j
  by_cases e : j = k
  · subst e
    rw [upd_same]
    refine ⟨has_put_same hD (k := .int .i64 j) trivial _, ?_⟩
    intro v' hv zd
    cases hv
    exact atKey_put_same hD (k := .int .i64 j) trivial _ _
  · rw [upd_other _ _ e]
    refine ⟨(has_put_other (key_ne e) _).trans (h j).1, ?_⟩
    intro v' hv zd
    rw [atKey_put_other (key_ne e)]
    exact (h j).2 v' hv zd

theorem reads_del {D : DataW Unit} {f : Int → Option Int} (h : MapReads D f) (k : Int) : MapReads (D.del (.int .i64 k)) (upd f k none) := by
  intro j
  by_cases e : j = k
  · subst e
    rw [upd_same]
    exact ⟨has_del_same, fun v' hv => by cases hv⟩
  · rw [upd_other _ _ e]
    refine ⟨(has_del_other (key_ne e)).trans (h j).1, ?_⟩
    intro v' hv zd
    rw [atKey_del_other (key_ne e)]
    exact (h j).2 v' hv zd

theorem reads_look {D : DataW Unit} {f : Int → Option Int} (h : MapReads D f) (k c : Int) (hat : D.atKey (.int .i64 k) (.lit (.int .u64 0)) = .lit (.int .u64 c)) : c = (f k).getD 0 := by
  obtain ⟨h1, h2⟩ := h k
  cases hf : f k with
  | none =>
    rw [hf] at h1
    rw [atKey_of_not_has h1] at hat
    cases hat; rfl
  | some v =>
    rw [h2 v hf] at hat
    cases hat; rfl

section
variable {w w' : World} {b n : Nat} {f : Int → Option Int}

theorem MapIs.mono (h : MapIs w b n f) {n' : Nat} (hn : n ≤ n') : MapIs w b n' f := let ⟨D, h1, h2⟩ := h; ⟨D, h1.mono hn, h2⟩
theorem MapIs.lt (h : MapIs w b n f) : b < w.heap.size := let ⟨_, h1, _⟩ := h; h1.lt
theorem MapIs.block (h : MapIs w b n f) : ∃ es c, w.heap[b]? = some (.map es c) := let ⟨_, ⟨es, c, hb, _⟩, _⟩ := h; ⟨es, c, hb⟩
theorem MapIs.of_block (h : MapIs w b n f) (hb : w'.heap[b]? = w.heap[b]?) : MapIs w' b n f := by
  obtain ⟨D, ⟨es, c, h1, r⟩, h2⟩ := h
  exact ⟨D, ⟨es, c, hb.trans h1, r⟩, h2⟩
theorem MapIs.congr (h : MapIs w b n f) {g : Int → Option Int} (e : ∀ k, g k = f k) : MapIs w b n g := by
  obtain ⟨D, h1, h2⟩ := h
  exact ⟨D, h1, fun k => by rw [e k]; exact h2 k⟩

/-- What is in the map may be a key, and a word. -/
theorem MapIs.wf (h : MapIs w b n f) {k v : Int} (hk : f k = some v) : (Lit.int .u64 v).wf = true := by
  obtain ⟨D, hown, hr⟩ := h
  obtain ⟨h1, h2⟩ := hr k
  rw [hk] at h1
  obtain ⟨es, hD, _⟩ := hown.entries law3
  obtain ⟨es', clock, hb, F, hs, hD'⟩ := hown
  have hat := h2 v hk (.lit (.int .u64 0))
  rw [hD', Maps.has_eq] at h1
  rw [hD'] at hat
  obtain ⟨p, hp, hpk⟩ := List.any_eq_true.1 h1
  have e0 := hat
  simp only [DataW.atKey] at e0
  cases hfind : List.find? (fun p : Lit × DataW Unit => p.1.sameKey (.int .i64 k)) ((es'.toList.map (WideElems.rg Try.prog 3 (plainElem Try.prog 23))).foldr DataW.insert []) with
  | none =>
    have := List.find?_eq_none.1 hfind p hp
    simp [hpk] at this
  | some q =>
    have hq := List.mem_of_find?_eq_some hfind
    rw [mem_sorted] at hq
    obtain ⟨x, hx, rfl⟩ := List.mem_map.1 hq
    obtain ⟨y, hy⟩ := F.reads x hx
    obtain ⟨z, hz, hz2⟩ := WideElems.rd_val hy
    have hrg : WideElems.rg Try.prog 3 (plainElem Try.prog 23) x = y := by simp [WideElems.rg, hy]
    rw [hfind] at e0
    simp at e0
    rw [hrg] at e0
    obtain ⟨c, _, hc, hwc⟩ := plainElem_int_inv Try.underlying23 hz
    rw [hz2, hc] at e0
    simp at e0
    rw [← e0]; exact hwc
end

section
variable (w : World) {ops : Array Oper} {rest : List Oper} {o : Oper} {a : Act} {Q : Exit → Act → World → Prop}

/-- 'v, ok := m[k]'. -/
theorem wpList_look2 (hg : o.guard = none) (m x : Operand) (hop : o.op = Op.lookup 64 m x true) (b n : Nat) (f : Int → Option Int) (k c : Int) (bb : Bool)
    (hm : a.eval m = .map (some b)) (h : MapIs w b n f) (hx : a.eval x = .int .i64 k) (hwk : (Lit.int .i64 k).wf = true) (hc : (f k).getD 0 = c) (hb : (f k).isSome = bb)
    (hK : wpList Try.prog ops Q rest (a.put o.dst (.tuple #[.int .u64 c, .bool bb])) w) :
    wpList Try.prog ops Q (o :: rest) a w := by
  obtain ⟨D, hown, hr⟩ := h
  refine wpList_lookup_own_ok_int w hg m x 64 hop 3 23 .u64 law3 Try.underlying64 Try.underlying23 (zero22 _) b n D hm hown _ _ hx (keyOf_int_mk Try.underlying3 hwk) ?_
  intro c' hat _
  rw [reads_look hr k c' hat, (hr k).1, hc, hb]
  exact hK

/-- 'm[k]'. -/
theorem wpList_look1 (hg : o.guard = none) (m x : Operand) (hop : o.op = Op.lookup 64 m x false) (b n : Nat) (f : Int → Option Int) (k c : Int)
    (hm : a.eval m = .map (some b)) (h : MapIs w b n f) (hx : a.eval x = .int .i64 k) (hwk : (Lit.int .i64 k).wf = true) (hc : (f k).getD 0 = c)
    (hK : wpList Try.prog ops Q rest (a.put o.dst (.int .u64 c)) w) :
    wpList Try.prog ops Q (o :: rest) a w := by
  obtain ⟨D, hown, hr⟩ := h
  refine wpList_lookup_own_int w hg m x 64 hop 3 23 .u64 law3 Try.underlying64 Try.underlying23 (zero22 _) b n D hm hown _ _ hx (keyOf_int_mk Try.underlying3 hwk) ?_
  intro c' hat _
  rw [reads_look hr k c' hat, hc]
  exact hK

/-- 'm[k] = v'. -/
theorem wpList_put (hg : o.guard = none) (m x v : Operand) (hop : o.op = Op.mapUpdate 64 m x v) (b n : Nat) (f : Int → Option Int) (k c : Int)
    (hm : a.eval m = .map (some b)) (h : MapIs w b n f) (hn : n < maxLen) (hx : a.eval x = .int .i64 k) (hv : a.eval v = .int .u64 c) (hwk : (Lit.int .i64 k).wf = true) (hwc : (Lit.int .u64 c).wf = true)
    (hK : ∀ w', MapIs w' b (n + 1) (upd f k (some c)) → w.mapTurned w' b → wpList Try.prog ops Q rest (a.put o.dst undef) w') :
    wpList Try.prog ops Q (o :: rest) a w := by
  obtain ⟨D, hown, hr⟩ := h
  refine wpList_mapUpdate_in w hg m x v 64 hop 3 23 law3 Try.underlying64 _ b n D hm hown hn _ _ _ hx hv (keyOf_int_mk Try.underlying3 hwk) _ [] (plainElem_int Try.underlying23 hwc) ?_
  intro w1 hown1 hturn
  exact hK w1 ⟨_, hown1, reads_put hr hown.isMap k c⟩ hturn

/-- 'delete(m, k)'. -/
theorem wpList_del (hg : o.guard = none) (m x : Operand) (hop : o.op = Op.call { callee := Callee.builtin Builtin.delete, args := #[m, x], argTypes := #[64, 3] }) (b n : Nat) (f : Int → Option Int) (k : Int)
    (hm : a.eval m = .map (some b)) (h : MapIs w b n f) (hx : a.eval x = .int .i64 k) (hwk : (Lit.int .i64 k).wf = true)
    (hK : ∀ w', MapIs w' b n (upd f k none) → w.mapTurned w' b → wpList Try.prog ops Q rest (a.put o.dst (.tuple #[])) w') :
    wpList Try.prog ops Q (o :: rest) a w := by
  obtain ⟨D, hown, hr⟩ := h
  refine wpList_delete_own w hg m x 64 3 hop 23 law3 Try.underlying64 _ b n D hm hown _ _ hx (keyOf_int_mk Try.underlying3 hwk) ?_
  intro w1 hown1 hturn
  exact hK w1 ⟨_, hown1, reads_del hr k⟩ hturn

theorem fit_empty (clock : Nat) : WideElems.Fit (H := Unit) Try.prog 3 (plainElem Try.prog 23) #[] clock :=
  ⟨by simp, MapKept.stamped_empty _, by simp⟩

/-- 'clear(m)'. -/
theorem wpList_clear (hg : o.guard = none) (m : Operand) (hop : o.op = Op.call { callee := Callee.builtin Builtin.clear, args := #[m], argTypes := #[64] }) (b n : Nat) (f : Int → Option Int)
    (hm : a.eval m = .map (some b)) (h : MapIs w b n f)
    (hK : ∀ w', MapIs w' b 0 (fun _ => none) → w.mapTurned w' b → wpList Try.prog ops Q rest (a.put o.dst (.tuple #[])) w') :
    wpList Try.prog ops Q (o :: rest) a w := by
  obtain ⟨es, clock, hb⟩ := h.block
  refine wpList_plain hg fun K' hK' => ?_
  unfold Oper.wp
  simp [execOp, hop, resolve, invoke, builtin, hm, Builtin.clear_, run_underlying Try.underlying64, MapKept.run_getObj_map hb, MapKept.run_setObj_map _ hb, Result.andThen]
  refine hK' _ _ (hK _ ⟨.map [], ⟨#[], clock, heap_setBlock_same hb _, fit_empty clock, by simp, by simp⟩, reads_empty⟩ ⟨es, clock, #[], clock, hb, rfl⟩)
end

/-- w' is w but for the blocks of S and new ones. -/
structure Only (S : List Nat) (w w' : World) : Prop where
  os : w'.os = w.os
  tape : w'.tape = w.tape
  output : w'.output = w.output
  size : w.heap.size ≤ w'.heap.size
  block : ∀ k, k < w.heap.size → k ∉ S → w'.heap[k]? = w.heap[k]?

theorem Only.refl (S : List Nat) (w : World) : Only S w w := ⟨rfl, rfl, rfl, Nat.le_refl _, fun _ _ _ => rfl⟩
theorem Only.trans {S : List Nat} {a b c : World} (h : Only S a b) (k : Only S b c) : Only S a c :=
  ⟨k.os.trans h.os, k.tape.trans h.tape, k.output.trans h.output, Nat.le_trans h.size k.size, fun i hi hn => (k.block i (Nat.lt_of_lt_of_le hi h.size) hn).trans (h.block i hi hn)⟩
theorem Only.mono {S T : List Nat} {a b : World} (h : Only S a b) (hs : ∀ k ∈ S, k ∈ T) : Only T a b := ⟨h.os, h.tape, h.output, h.size, fun i hi hn => h.block i hi (fun hm => hn (hs i hm))⟩
theorem Only.drew {S : List Nat} {a b : World} (h : Only S a b) : Only S a b.drew := ⟨h.os, h.tape, h.output, h.size, h.block⟩
theorem Only.alloc {S : List Nat} {a w : World} (h : Only S a w) (o : Obj) : Only S a (w.alloc o) :=
  h.trans ⟨rfl, rfl, rfl, by simp, fun k hk _ => Below.heap_alloc _ _ _ hk⟩
theorem Only.setCell {S : List Nat} {a w : World} (h : Only S a w) {p : Addr} (hp : p.block ∈ S) (u : Value) : Only S a (w.setCell p u) :=
  h.trans ⟨rfl, rfl, rfl, by simp [World.setCell], fun k _ hk => Below.heap_setCell _ _ _ _ (fun e => hk (e ▸ hp))⟩
theorem Only.grown {S : List Nat} {a w w' : World} {row : Option Nat} (h : Only S a w) (hg : w.grownBy w' row) (hr : ∀ k, row = some k → k ∈ S) : Only S a w' :=
  h.trans ⟨hg.os, hg.tape, hg.output, hg.size, fun k hk hn => hg.block k hk (fun e => hn (hr k e.symm))⟩
theorem Only.turned {S : List Nat} {a w w' : World} {b : Nat} (h : Only S a w) (ht : w.mapTurned w' b) (hb : b ∈ S) : Only S a w' :=
  h.grown ht.grown (fun k e => by cases e; exact hb)
theorem Only.of_below {S : List Nat} {w w' : World} (h : Below w.heap.size w w') : Only S w w' := ⟨h.os, h.tape, h.output, h.size, fun k hk _ => h.block k hk⟩
theorem Only.below {S : List Nat} {w w' : World} {B : Nat} (h : Only S w w') (hB : B ≤ w.heap.size) (hS : ∀ k ∈ S, B ≤ k) : Below B w w' :=
  ⟨h.os, h.tape, h.output, h.size, fun k hk => h.block k (by omega) (fun hm => by have := hS k hm; omega)⟩

end Go.Proofs.Ytdjnkibnnjobpaa

namespace Go.Proofs.Ytdjnkibnnjobpaa
open Go.RowKit Go.Maps Go.ChangeMaps

/-- Where a memory's parts lie. -/
structure Lay where
  mb : Nat
  sb : Nat
  cap : Nat
  lb : Nat
  wb : Nat
  sp : Option Addr

def Lay.blocks (L : Lay) : List Nat := [L.mb, L.sb, L.lb, L.wb]

def objOf (L : Lay) (n : Nat) (c : Nat) (s : Bool) (t : Int) : Obj :=
  .cells #[.slice L.sp n L.cap, .map (some L.lb), .map (some L.wb), .int .i64 c, .bool s, .int .i64 t] 98 (0, 0)

structure MemIs (w : World) (L : Lay) (M : Mem) : Prop where
  obj : w.heap[L.mb]? = some (objOf L M.sure.length M.calls M.stops M.stopAt)
  row : w.ownsRow 0 23 1 (.slice L.sp M.sure.length L.cap) M.sure.length (M.sure.map (Value.int .u64))
  place : L.sp = none ∧ L.sb = L.mb ∨ L.sp = some ⟨L.sb, 0, none⟩
  loose : MapIs w L.lb (8 * M.calls) M.loose
  way : MapIs w L.wb (8 * M.calls) M.way
  ne : L.lb ≠ L.wb
  looseIn : ∀ k v, M.loose k = some v → 0 ≤ k ∧ k < M.sure.length
  wayIn : ∀ k v, M.way k = some v → 0 ≤ k ∧ k < M.sure.length
  len : M.sure.length ≤ 4096
  words : ∀ v ∈ M.sure, (Lit.int .u64 v).wf = true

section
variable {w w' : World} {L : Lay} {M : Mem}

theorem MemIs.lt (h : MemIs w L M) : L.mb < w.heap.size := (Array.getElem?_eq_some_iff.1 h.obj).1

theorem MemIs.cell (h : MemIs w L M) (i : Nat) : w.cell? ⟨L.mb, i, none⟩ = (#[.slice L.sp M.sure.length L.cap, .map (some L.lb), .map (some L.wb), .int .i64 M.calls, .bool M.stops, .int .i64 M.stopAt] : Array Value)[i]? := by
  simp [World.cell?, h.obj, objOf]
theorem MemIs.c0 (h : MemIs w L M) : w.cell? ⟨L.mb, 0, none⟩ = some (.slice L.sp M.sure.length L.cap) := by rw [h.cell]; rfl
theorem MemIs.c1 (h : MemIs w L M) : w.cell? ⟨L.mb, 1, none⟩ = some (.map (some L.lb)) := by rw [h.cell]; rfl
theorem MemIs.c2 (h : MemIs w L M) : w.cell? ⟨L.mb, 2, none⟩ = some (.map (some L.wb)) := by rw [h.cell]; rfl
theorem MemIs.c3 (h : MemIs w L M) : w.cell? ⟨L.mb, 3, none⟩ = some (.int .i64 M.calls) := by rw [h.cell]; rfl
theorem MemIs.c4 (h : MemIs w L M) : w.cell? ⟨L.mb, 4, none⟩ = some (.bool M.stops) := by rw [h.cell]; rfl
theorem MemIs.c5 (h : MemIs w L M) : w.cell? ⟨L.mb, 5, none⟩ = some (.int .i64 M.stopAt) := by rw [h.cell]; rfl
theorem MemIs.fz (h : MemIs w L M) (i : Nat) : w.frozen? ⟨L.mb, i, none⟩ = false := by simp [World.frozen?, h.obj, objOf]

theorem MemIs.mb_lb (h : MemIs w L M) : L.mb ≠ L.lb := by
  obtain ⟨es, c, hb⟩ := h.loose.block
  intro e; rw [← e, h.obj] at hb; cases hb
theorem MemIs.mb_wb (h : MemIs w L M) : L.mb ≠ L.wb := by
  obtain ⟨es, c, hb⟩ := h.way.block
  intro e; rw [← e, h.obj] at hb; cases hb

/-- The row of sure words, where it is one. -/
theorem MemIs.rowAt (h : MemIs w L M) (hp : L.sp = some ⟨L.sb, 0, none⟩) : ∃ cur, w.heap[L.sb]? = some (.cells cur 23 (0, 0)) := by
  rcases h.row.2 with ⟨e, _⟩ | ⟨g, cap, cur, e, _, hb, _⟩
  · rw [hp] at e; cases e
  · rw [hp] at e; cases e; exact ⟨cur, hb⟩
theorem MemIs.sb_mb (h : MemIs w L M) (hp : L.sp = some ⟨L.sb, 0, none⟩) : L.sb ≠ L.mb := by
  obtain ⟨cur, hb⟩ := h.rowAt hp
  intro e; rw [e, h.obj] at hb; cases hb
theorem MemIs.sb_lb (h : MemIs w L M) (hp : L.sp = some ⟨L.sb, 0, none⟩) : L.sb ≠ L.lb := by
  obtain ⟨cur, hb⟩ := h.rowAt hp
  obtain ⟨es, c, hb'⟩ := h.loose.block
  intro e; rw [e, hb'] at hb; cases hb
theorem MemIs.sb_wb (h : MemIs w L M) (hp : L.sp = some ⟨L.sb, 0, none⟩) : L.sb ≠ L.wb := by
  obtain ⟨cur, hb⟩ := h.rowAt hp
  obtain ⟨es, c, hb'⟩ := h.way.block
  intro e; rw [e, hb'] at hb; cases hb
theorem MemIs.some_of_pos (h : MemIs w L M) (hn : 0 < M.sure.length) : L.sp = some ⟨L.sb, 0, none⟩ := by
  rcases h.place with ⟨e, _⟩ | e
  · rcases h.row.2 with ⟨_, e0⟩ | ⟨g, cap, cur, e', _⟩
    · omega
    · rw [e] at e'; cases e'
  · exact e

theorem ownsRow_of_block {w w' : World} {e : TypeId} {v : Value} {n : Nat} {xs : List Value} (h : w.ownsRow 0 e 1 v n xs) (hb : ∀ g, v.ownBlock = some g → w'.heap[g]? = w.heap[g]?) : w'.ownsRow 0 e 1 v n xs := by
  refine ⟨h.1, ?_⟩
  rcases h.2 with h2 | ⟨g, cap, cur, rfl, r1, r2, r3⟩
  · exact .inl h2
  · exact .inr ⟨g, cap, cur, rfl, r1, (hb g rfl).trans r2, r3⟩

theorem MemIs.row_of (h : MemIs w L M) (hb : L.sp = some ⟨L.sb, 0, none⟩ → w'.heap[L.sb]? = w.heap[L.sb]?) : w'.ownsRow 0 23 1 (.slice L.sp M.sure.length L.cap) M.sure.length (M.sure.map (Value.int .u64)) :=
  ownsRow_of_block h.row fun g hg => by
    rcases h.place with ⟨e, _⟩ | e
    · rw [e] at hg; cases hg
    · rw [e] at hg; cases hg; exact hb e

/-- A memory stays what it is while its own blocks stay. -/
theorem MemIs.of_blocks (h : MemIs w L M) (hb : ∀ k ∈ L.blocks, k < w.heap.size → w'.heap[k]? = w.heap[k]?) : MemIs w' L M where
  obj := (hb _ (by simp [Lay.blocks]) h.lt).trans h.obj
  row := h.row_of fun e => by
    obtain ⟨cur, hc⟩ := h.rowAt e
    exact hb _ (by simp [Lay.blocks]) (Array.getElem?_eq_some_iff.1 hc).1
  place := h.place
  loose := h.loose.of_block (hb _ (by simp [Lay.blocks]) h.loose.lt)
  way := h.way.of_block (hb _ (by simp [Lay.blocks]) h.way.lt)
  ne := h.ne
  looseIn := h.looseIn
  wayIn := h.wayIn
  len := h.len
  words := h.words

theorem MemIs.kept {S : List Nat} (h : MemIs w L M) (ho : Only S w w') (hS : ∀ k ∈ L.blocks, k ∉ S) : MemIs w' L M :=
  h.of_blocks fun k hk hl => ho.block k hl (hS k hk)
theorem MemIs.alloc (h : MemIs w L M) (o : Obj) : MemIs (w.alloc o) L M := h.of_blocks fun _ _ hl => Below.heap_alloc _ _ _ hl
theorem MemIs.drew (h : MemIs w L M) : MemIs w.drew L M := ⟨h.obj, h.row, h.place, h.loose, h.way, h.ne, h.looseIn, h.wayIn, h.len, h.words⟩

/-- Only the counters of the object have changed. -/
theorem MemIs.fields (h : MemIs w L M) {c : Nat} {s : Bool} {t : Int} (hc : M.calls ≤ c) (ho : w'.heap[L.mb]? = some (objOf L M.sure.length c s t)) (hb : ∀ k, k ≠ L.mb → w'.heap[k]? = w.heap[k]?) :
    MemIs w' L { M with calls := c, stops := s, stopAt := t } where
  obj := ho
  row := h.row_of fun e => hb _ (h.sb_mb e)
  place := h.place
  loose := (h.loose.of_block (hb _ h.mb_lb.symm)).mono (by show 8 * M.calls ≤ 8 * c; omega)
  way := (h.way.of_block (hb _ h.mb_wb.symm)).mono (by show 8 * M.calls ≤ 8 * c; omega)
  ne := h.ne
  looseIn := h.looseIn
  wayIn := h.wayIn
  len := h.len
  words := h.words

theorem heap_set3 {n c : Nat} {s : Bool} {t : Int} (ho : w.heap[L.mb]? = some (objOf L n c s t)) (c' : Nat) : (w.setCell ⟨L.mb, 3, none⟩ (.int .i64 c')).heap[L.mb]? = some (objOf L n c' s t) := by
  simp [World.setCell, Array.getElem?_modify, ho, objOf]
theorem heap_set4 {n c : Nat} {s : Bool} {t : Int} (ho : w.heap[L.mb]? = some (objOf L n c s t)) (s' : Bool) : (w.setCell ⟨L.mb, 4, none⟩ (.bool s')).heap[L.mb]? = some (objOf L n c s' t) := by
  simp [World.setCell, Array.getElem?_modify, ho, objOf]
theorem heap_set5 {n c : Nat} {s : Bool} {t : Int} (ho : w.heap[L.mb]? = some (objOf L n c s t)) (t' : Int) : (w.setCell ⟨L.mb, 5, none⟩ (.int .i64 t')).heap[L.mb]? = some (objOf L n c s t') := by
  simp [World.setCell, Array.getElem?_modify, ho, objOf]

/-- The loose words alone have changed. -/
theorem MemIs.newLoose (h : MemIs w L M) {n : Nat} {f : Int → Option Int} (hm : MapIs w' L.lb n f) (hn : n ≤ 8 * M.calls) (ho : Only [L.lb] w w') (hf : ∀ k v, f k = some v → 0 ≤ k ∧ k < M.sure.length) : MemIs w' L { M with loose := f } where
  obj := (ho.block _ h.lt (by simp [h.mb_lb])).trans h.obj
  row := h.row_of fun e => by
    obtain ⟨cur, hc⟩ := h.rowAt e
    exact ho.block _ (Array.getElem?_eq_some_iff.1 hc).1 (by simp [h.sb_lb e])
  place := h.place
  loose := hm.mono hn
  way := h.way.of_block (ho.block _ h.way.lt (by simp [h.ne.symm]))
  ne := h.ne
  looseIn := hf
  wayIn := h.wayIn
  len := h.len
  words := h.words

/-- What is on the way alone has changed. -/
theorem MemIs.newWay (h : MemIs w L M) {n : Nat} {f : Int → Option Int} (hm : MapIs w' L.wb n f) (hn : n ≤ 8 * M.calls) (ho : Only [L.wb] w w') (hf : ∀ k v, f k = some v → 0 ≤ k ∧ k < M.sure.length) : MemIs w' L { M with way := f } where
  obj := (ho.block _ h.lt (by simp [h.mb_wb])).trans h.obj
  row := h.row_of fun e => by
    obtain ⟨cur, hc⟩ := h.rowAt e
    exact ho.block _ (Array.getElem?_eq_some_iff.1 hc).1 (by simp [h.sb_wb e])
  place := h.place
  loose := h.loose.of_block (ho.block _ h.loose.lt (by simp [h.ne]))
  way := hm.mono hn
  ne := h.ne
  looseIn := h.looseIn
  wayIn := hf
  len := h.len
  words := h.words

/-- A sure word has been stored. -/
theorem MemIs.newSure (h : MemIs w L M) (k : Nat) (v : Int) (hk : k < M.sure.length) (hv : (Lit.int .u64 v).wf = true) : MemIs (w.setCell ⟨L.sb, k, none⟩ (.int .u64 v)) L { M with sure := M.sure.set k v } := by
  have e := h.some_of_pos (Nat.zero_lt_of_lt hk)
  have hb : ∀ j, j ≠ L.sb → (w.setCell ⟨L.sb, k, none⟩ (.int .u64 v)).heap[j]? = w.heap[j]? := fun j hj => Below.heap_setCell _ _ _ _ hj
  have hrow := h.row
  rw [e] at hrow
  refine ⟨?_, ?_, h.place, ?_, ?_, h.ne, ?_, ?_, ?_, ?_⟩
  · rw [hb _ (h.sb_mb e).symm]; simpa using h.obj
  · have := (hrow.stored k (.int .u64 v)).1
    rw [e]
    simpa [List.map_set] using this
  · exact h.loose.of_block (hb _ (h.sb_lb e).symm)
  · exact h.way.of_block (hb _ (h.sb_wb e).symm)
  · intro j x hj; have := h.looseIn j x hj; simpa using this
  · intro j x hj; have := h.wayIn j x hj; simpa using this
  · simpa using h.len
  · intro x hx
    rcases List.mem_or_eq_of_mem_set hx with hx | rfl
    · exact h.words x hx
    · exact hv

theorem MemIs.sureCell (h : MemIs w L M) (k : Nat) (hk : k < M.sure.length) : w.cell? ⟨L.sb, k, none⟩ = some (.int .u64 (M.sure.getD k 0)) := by
  have e := h.some_of_pos (Nat.zero_lt_of_lt hk)
  have hrow := h.row
  rw [e] at hrow
  rw [hrow.cellAt k (by simpa using hk)]
  simp [hk]
theorem MemIs.sureFz (h : MemIs w L M) (k : Nat) (hk : k < M.sure.length) : w.frozen? ⟨L.sb, k, none⟩ = false := by
  have e := h.some_of_pos (Nat.zero_lt_of_lt hk)
  have hrow := h.row
  rw [e] at hrow
  exact hrow.frozenAt k

theorem MemIs.congr (h : MemIs w L M) {M' : Mem} (h1 : M'.sure = M.sure) (h2 : ∀ k, M'.loose k = M.loose k) (h3 : ∀ k, M'.way k = M.way k) (h4 : M'.calls = M.calls) (h5 : M'.stops = M.stops) (h6 : M'.stopAt = M.stopAt) : MemIs w L M' := by
  have : M' = M := by
    obtain ⟨a, b, c, d, e, f⟩ := M
    obtain ⟨a', b', c', d', e', f'⟩ := M'
    simp only at h1 h2 h3 h4 h5 h6
    rw [h1, funext h2, funext h3, h4, h5, h6]
  rw [this]; exact h
end

end Go.Proofs.Ytdjnkibnnjobpaa

namespace Go.Proofs.Ytdjnkibnnjobpaa
open Go.RowKit Go.Maps Go.ChangeMaps

theorem ret_int {k : IntKind} {a b : Int} (h : a = b) : Ending.returned (.int k a) = .returned (.int k b) := by rw [h]

theorem ret_bool {a b : Bool} (h : a = b) : Ending.returned (.bool a) = .returned (.bool b) := by rw [h]

theorem size_any (L : Lay) (M : Mem) (w : World) (h : MemIs w L M) :
    Calls Try.prog 24 #[.pointer (some ⟨L.mb, 0, none⟩)] w fun e w' => e = .returned (.int .i64 M.sure.length) ∧ w' = w := by
  have c0 := h.c0
  clear h
  go_enter Try.func24, Try.ntmps24
  go_wp2
  go_ret
  exact ⟨rfl, rfl⟩

theorem has_any (L : Lay) (M : Mem) (k : Int) (w : World) (h : MemIs w L M) :
    Calls Try.prog 69 #[.pointer (some ⟨L.mb, 0, none⟩), .int .i64 k] w fun e w' => e = .returned (.bool (M.has k)) ∧ w' = w := by
  have hs := size_any L M
  by_cases h0 : 0 ≤ k
  · go_enter Try.func69, Try.ntmps69
    go_wp2_with (go_at_call 24; refine (hs _ h).mono ?_; rintro e w' ⟨rfl, rfl⟩)
    all_goals
      go_ret
      exact ⟨ret_bool (by simp [Mem.has, *]), rfl⟩
  · go_enter Try.func69, Try.ntmps69
    go_wp2
    go_ret
    exact ⟨ret_bool (by simp [Mem.has]; omega), rfl⟩

theorem only_sub {L : Lay} {b : Nat} {w w' : World} (h : Only [b] w w') (hb : b ∈ L.blocks) : Only L.blocks w w' := h.mono (fun k hk => by cases List.mem_singleton.1 hk; exact hb)

theorem read_any (L : Lay) (M : Mem) (k : Int) (w : World) (h : MemIs w L M) (hk : (Lit.int .i64 k).wf = true) :
    Calls Try.prog 56 #[.pointer (some ⟨L.mb, 0, none⟩), .int .i64 k] w fun e w' => e = .returned (.int .u64 (M.read k)) ∧ w' = w := by
  cases hh : M.has k with
  | false =>
    have hr : M.read k = 0 := by simp [Mem.read, hh]
    rw [hr]
    go_enter Try.func56, Try.ntmps56
    go_wp2_with (go_at_call 69; refine (has_any L M k _ h).mono ?_; rintro e w' ⟨rfl, rfl⟩; rw [hh])
    go_ret
    exact ⟨rfl, rfl⟩
  | true =>
    have hb : 0 ≤ k ∧ k < M.sure.length := by simpa [Mem.has] using hh
    obtain ⟨j, rfl⟩ : ∃ j : Nat, k = j := ⟨k.toNat, by omega⟩
    have hj : j < M.sure.length := by omega
    have e := h.some_of_pos (Nat.zero_lt_of_lt hj)
    have c0 := h.c0
    have c1 := h.c1
    have cs := h.sureCell j hj
    rw [e] at c0
    cases hl : M.loose j with
    | none =>
      have hr : M.read j = M.sure.getD j 0 := by simp [Mem.read, hh, hl]
      rw [hr]
      go_enter Try.func56, Try.ntmps56
      go_wp2_with (first
        | (go_at_call 69; refine (has_any L M j _ h).mono ?_; rintro e w' ⟨rfl, rfl⟩; rw [hh])
        | (at_lookup; refine wpList_look2 _ rfl _ _ rfl L.lb (8 * M.calls) M.loose j 0 false rfl h.loose rfl hk (by rw [hl]; rfl) (by rw [hl]; rfl) ?_)
        | go_in)
      go_ret
      exact ⟨ret_int (by simp [hj]), rfl⟩
    | some v =>
      have hr : M.read j = v := by simp [Mem.read, hh, hl]
      rw [hr]
      go_enter Try.func56, Try.ntmps56
      go_wp2_with (first
        | (go_at_call 69; refine (has_any L M j _ h).mono ?_; rintro e w' ⟨rfl, rfl⟩; rw [hh])
        | (at_lookup; refine wpList_look2 _ rfl _ _ rfl L.lb (8 * M.calls) M.loose j v true rfl h.loose rfl hk (by rw [hl]; rfl) (by rw [hl]; rfl) ?_)
        | go_in)
      go_ret
      exact ⟨rfl, rfl⟩

theorem MemIs.all_lt {w : World} {L : Lay} {M : Mem} (h : MemIs w L M) : ∀ k ∈ L.blocks, k < w.heap.size := by
  have hs : L.sb < w.heap.size := by
    rcases h.place with ⟨_, e⟩ | e
    · rw [e]; exact h.lt
    · obtain ⟨cur, hb⟩ := h.rowAt e
      exact (Array.getElem?_eq_some_iff.1 hb).1
  have h1 := h.lt
  have h2 := h.loose.lt
  have h3 := h.way.lt
  intro k hk
  simp only [Lay.blocks, List.mem_cons, List.not_mem_nil, or_false] at hk
  rcases hk with rfl | rfl | rfl | rfl <;> assumption

theorem add_none (b o j : Nat) : (⟨b, o, none⟩ : Addr).add j = ⟨b, o + j, none⟩ := by unfold Addr.add; by_cases e : j = 0 <;> simp [e]

theorem ownsRow_form0 {w : World} {base e n : Nat} {v : Value} {xs : List Value} (h : w.ownsRow base e 1 v n xs) : ∃ a c, v = .slice a n c ∧ (n = 0 ∨ ∃ g, a = some ⟨g, 0, none⟩ ∧ base ≤ g) := by
  rcases h.2 with ⟨rfl, rfl⟩ | ⟨g, cap, cur, rfl, hb, _⟩
  · exact ⟨none, 0, rfl, .inl rfl⟩
  · exact ⟨_, cap, rfl, .inr ⟨g, rfl, hb⟩⟩

end Go.Proofs.Ytdjnkibnnjobpaa

namespace Go.Proofs.Ytdjnkibnnjobpaa
open Go.RowKit

theorem ret_two {k l : IntKind} {a b c d : Int} (h : a = b) (h' : c = d) : Ending.returned (.tuple #[.int k a, .int l c]) = .returned (.tuple #[.int k b, .int l d]) := by rw [h, h']

/-- The kind of a word, as a number. -/
def kindI (a : Int) : Int := if a < 0 then 0 else if 2824 ≤ a then 0 else if a < 8 then 1 else if a < 200 then 2 else if a < 296 then 3 else if a < 1288 then 4 else 5

/-- Which thing of that kind. -/
def numI (a : Int) : Int := if a < 0 then 0 else if 2824 ≤ a then 0 else if a < 8 then 0 else if a < 200 then (a - 8) / 8 else if a < 296 then a - 200 else if a < 1288 then (a - 296) / 248 else (a - 1288) / 16

theorem ki_neg {a : Int} (h : a < 0) : kindI a = 0 ∧ numI a = 0 := by unfold kindI numI; simp [h]

theorem ki_far {a : Int} (h : 2824 ≤ a) : kindI a = 0 ∧ numI a = 0 := by
  have e : ¬ a < 0 := by omega
  unfold kindI numI; simp [h, e]

theorem ki_head {a : Int} (h0 : 0 ≤ a) (h : a < 8) : kindI a = 1 ∧ numI a = 0 := by
  have e0 : ¬ a < 0 := by omega
  have e1 : ¬ 2824 ≤ a := by omega
  unfold kindI numI; simp [h, e0, e1]

theorem ki_card {a : Int} (h0 : 8 ≤ a) (h : a < 200) : kindI a = 2 ∧ numI a = (a - 8) / 8 := by
  have e0 : ¬ a < 0 := by omega
  have e1 : ¬ 2824 ≤ a := by omega
  have e2 : ¬ a < 8 := by omega
  unfold kindI numI; simp [h, e0, e1, e2]

theorem ki_owner {a : Int} (h0 : 200 ≤ a) (h : a < 296) : kindI a = 3 ∧ numI a = a - 200 := by
  have e0 : ¬ a < 0 := by omega
  have e1 : ¬ 2824 ≤ a := by omega
  have e2 : ¬ a < 8 := by omega
  have e3 : ¬ a < 200 := by omega
  unfold kindI numI; simp [h, e0, e1, e2, e3]

theorem ki_log {a : Int} (h0 : 296 ≤ a) (h : a < 1288) : kindI a = 4 ∧ numI a = (a - 296) / 248 := by
  have e0 : ¬ a < 0 := by omega
  have e1 : ¬ 2824 ≤ a := by omega
  have e2 : ¬ a < 8 := by omega
  have e3 : ¬ a < 200 := by omega
  have e4 : ¬ a < 296 := by omega
  unfold kindI numI; simp [h, e0, e1, e2, e3, e4]

theorem ki_data {a : Int} (h0 : 1288 ≤ a) (h : a < 2824) : kindI a = 5 ∧ numI a = (a - 1288) / 16 := by
  have e0 : ¬ a < 0 := by omega
  have e1 : ¬ 2824 ≤ a := by omega
  have e2 : ¬ a < 8 := by omega
  have e3 : ¬ a < 200 := by omega
  have e4 : ¬ a < 296 := by omega
  have e5 : ¬ a < 1288 := by omega
  unfold kindI numI; simp [e0, e1, e2, e3, e4, e5]

/-- The seven places a word may have. -/
theorem places (a : Int) : a < 0 ∨ 2824 ≤ a ∨ (0 ≤ a ∧ a < 8) ∨ (8 ≤ a ∧ a < 200) ∨ (200 ≤ a ∧ a < 296) ∨ (296 ≤ a ∧ a < 1288) ∨ (1288 ≤ a ∧ a < 2824) := by omega

set_option maxHeartbeats 1000000 in
theorem what_any (a : Int) (w : World) :
    Calls Try.prog 75 #[.int .i64 a] w fun e w' => e = .returned (.tuple #[.int .i64 (kindI a), .int .i64 (numI a)]) ∧ w' = w := by
  rcases places a with h | h | ⟨h, h'⟩ | ⟨h, h'⟩ | ⟨h, h'⟩ | ⟨h, h'⟩ | ⟨h, h'⟩
  · rw [(ki_neg h).1, (ki_neg h).2]
    go_enter Try.func75, Try.ntmps75
    go_wp2
    go_ret2
    exact ⟨rfl, rfl⟩
  · have g : ¬ a < 0 := by omega
    rw [(ki_far h).1, (ki_far h).2]
    go_enter Try.func75, Try.ntmps75
    go_wp2
    go_ret2
    exact ⟨rfl, rfl⟩
  · rw [(ki_head h h').1, (ki_head h h').2]
    go_enter Try.func75, Try.ntmps75
    go_wp2
    go_ret2
    exact ⟨rfl, rfl⟩
  · rw [(ki_card h h').1, (ki_card h h').2]
    go_enter Try.func75, Try.ntmps75
    go_wp2
    go_ret2
    exact ⟨rfl, rfl⟩
  · rw [(ki_owner h h').1, (ki_owner h h').2]
    go_enter Try.func75, Try.ntmps75
    go_wp2
    go_ret2
    exact ⟨rfl, rfl⟩
  · rw [(ki_log h h').1, (ki_log h h').2]
    go_enter Try.func75, Try.ntmps75
    go_wp2
    go_ret2
    exact ⟨rfl, rfl⟩
  · rw [(ki_data h h').1, (ki_data h h').2]
    go_enter Try.func75, Try.ntmps75
    go_wp2
    go_ret2
    exact ⟨rfl, rfl⟩

/-- May a change name the word? -/
def openB (a : Int) : Bool := kindI a == 2 || kindI a == 3 || kindI a == 5

theorem kind_cases (a : Int) : kindI a = 0 ∨ kindI a = 1 ∨ kindI a = 2 ∨ kindI a = 3 ∨ kindI a = 4 ∨ kindI a = 5 := by
  rcases places a with h | h | ⟨h, h'⟩ | ⟨h, h'⟩ | ⟨h, h'⟩ | ⟨h, h'⟩ | ⟨h, h'⟩
  · exact .inl (ki_neg h).1
  · exact .inl (ki_far h).1
  · exact .inr (.inl (ki_head h h').1)
  · exact .inr (.inr (.inl (ki_card h h').1))
  · exact .inr (.inr (.inr (.inl (ki_owner h h').1)))
  · exact .inr (.inr (.inr (.inr (.inl (ki_log h h').1))))
  · exact .inr (.inr (.inr (.inr (.inr (ki_data h h').1))))

set_option maxHeartbeats 1000000 in
theorem open_any (a : Int) (w : World) :
    Calls Try.prog 70 #[.int .i64 a] w fun e w' => e = .returned (.bool (openB a)) ∧ w' = w := by
  obtain ⟨b, hb⟩ : ∃ b, openB a = b := ⟨_, rfl⟩
  have HB : Hid (openB a = b) := hb
  rw [hb]
  clear hb
  have H : Hid (Calls Try.prog 75 #[.int .i64 a] w fun e w' => e = .returned (.tuple #[.int .i64 (kindI a), .int .i64 (numI a)]) ∧ w' = w) := what_any a w
  rcases kind_cases a with h | h | h | h | h | h
  · rw [h] at H
    have HB' : Hid (false = b) := by rw [← HB.out]; unfold openB; rw [h]; rfl
    clear h HB
    go_enter Try.func70, Try.ntmps70
    go_wp2_with fail
    refine Calls.mono (Hid.out H) ?_
    rintro e w' ⟨rfl, rfl⟩
    go_wp2
    go_ret
    exact ⟨ret_bool HB'.out, rfl⟩
  · rw [h] at H
    have HB' : Hid (false = b) := by rw [← HB.out]; unfold openB; rw [h]; rfl
    clear h HB
    go_enter Try.func70, Try.ntmps70
    go_wp2_with fail
    refine Calls.mono (Hid.out H) ?_
    rintro e w' ⟨rfl, rfl⟩
    go_wp2
    go_ret
    exact ⟨ret_bool HB'.out, rfl⟩
  · rw [h] at H
    have HB' : Hid (true = b) := by rw [← HB.out]; unfold openB; rw [h]; rfl
    clear h HB
    go_enter Try.func70, Try.ntmps70
    go_wp2_with fail
    refine Calls.mono (Hid.out H) ?_
    rintro e w' ⟨rfl, rfl⟩
    go_wp2
    go_ret
    exact ⟨ret_bool HB'.out, rfl⟩
  · rw [h] at H
    have HB' : Hid (true = b) := by rw [← HB.out]; unfold openB; rw [h]; rfl
    clear h HB
    go_enter Try.func70, Try.ntmps70
    go_wp2_with fail
    refine Calls.mono (Hid.out H) ?_
    rintro e w' ⟨rfl, rfl⟩
    go_wp2
    go_ret
    exact ⟨ret_bool HB'.out, rfl⟩
  · rw [h] at H
    have HB' : Hid (false = b) := by rw [← HB.out]; unfold openB; rw [h]; rfl
    clear h HB
    go_enter Try.func70, Try.ntmps70
    go_wp2_with fail
    refine Calls.mono (Hid.out H) ?_
    rintro e w' ⟨rfl, rfl⟩
    go_wp2
    go_ret
    exact ⟨ret_bool HB'.out, rfl⟩
  · rw [h] at H
    have HB' : Hid (true = b) := by rw [← HB.out]; unfold openB; rw [h]; rfl
    clear h HB
    go_enter Try.func70, Try.ntmps70
    go_wp2_with fail
    refine Calls.mono (Hid.out H) ?_
    rintro e w' ⟨rfl, rfl⟩
    go_wp2
    go_ret
    exact ⟨ret_bool HB'.out, rfl⟩

theorem planSize_any (w : World) : Calls Try.prog 25 #[] w fun e w' => e = .returned (.int .i64 2824) ∧ w' = w := by
  go_enter Try.func25, Try.ntmps25
  go_wp2
  go_ret
  exact ⟨rfl, rfl⟩

/-- The head's words. -/
def headN (i : Nat) : Int := if i = 0 then 7021221306412823411 else if i = 1 then 2824 else 0

def headRow : Array Value := #[.int .u64 7021221306412823411, .int .u64 2824, .int .u64 0, .int .u64 0, .int .u64 0, .int .u64 0, .int .u64 0, .int .u64 0]

theorem head_any (w : World) :
    Calls Try.prog 23 #[] w fun e w' => e = .returned (.slice (some ⟨w.heap.size, 0, none⟩) 8 8) ∧ w' = w.alloc (.cells headRow 23) := by
  have hmk : ∀ w : World, (Instr.makeSlice 30 (.int .i64 8) (.int .i64 8)).run Try.prog w = .ok (.slice (some ⟨w.heap.size, 0, none⟩) 8 8) (w.alloc (.cells #[.int .u64 0, .int .u64 0, .int .u64 0, .int .u64 0, .int .u64 0, .int .u64 0, .int .u64 0, .int .u64 0] 23)) := fun _ => by kernel_rfl
  go_enter Try.func23, Try.ntmps23
  go_wp2
  go_ret
  exact ⟨rfl, rfl⟩

theorem head_cells (w : World) (i : Nat) (h : i < 8) : (w.alloc (.cells headRow 23)).cell? ⟨w.heap.size, i, none⟩ = some (.int .u64 (headN i)) := by
  rw [World.cell?_alloc_at _ _ _ _ rfl]
  match i, h with
  | 0, _ => rfl
  | 1, _ => rfl
  | 2, _ => rfl
  | 3, _ => rfl
  | 4, _ => rfl
  | 5, _ => rfl
  | 6, _ => rfl
  | 7, _ => rfl

theorem head_own (w : World) :
    Calls Try.prog 23 #[] w fun e w' => e = .returned (.slice (some ⟨w.heap.size, 0, none⟩) 8 8) ∧ Hid (∀ i, i < 8 → w'.cell? ⟨w.heap.size, i, none⟩ = some (.int .u64 (headN i))) ∧ Below w.heap.size w w' ∧ w.heap.size < w'.heap.size := by
  refine (head_any w).mono ?_
  rintro e w' ⟨rfl, rfl⟩
  exact ⟨rfl, fun i h => head_cells w i h, (Below.refl _ _).alloc (Nat.le_refl _) _, by rw [World.size_alloc]; omega⟩

/-- Words at a slice's address. -/
def UAt (w : World) (a : Option Addr) (n : Nat) (f : Nat → Int) : Prop := n = 0 ∨ ∃ b o, a = some ⟨b, o, none⟩ ∧ b < w.heap.size ∧ ∀ i, i < n → w.cell? ⟨b, o + i, none⟩ = some (.int .u64 (f i))

theorem UAt.later {w w' : World} {a : Option Addr} {n : Nat} {f : Nat → Int} (h : UAt w a n f) {B : Nat} (hB : w.heap.size ≤ B) (hb : Below B w w') : UAt w' a n f := by
  rcases h with h | ⟨b, o, e, hlt, hc⟩
  · exact .inl h
  · exact .inr ⟨b, o, e, by have := hb.size; omega, fun i hi => (hb.cell (p := ⟨b, o + i, none⟩) (by show b < B; omega)).trans (hc i hi)⟩

end Go.Proofs.Ytdjnkibnnjobpaa

namespace Go.Proofs.Ytdjnkibnnjobpaa
open Go.RowKit Go.Maps Go.ChangeMaps

def rowI (f : Nat → Int) (n : Nat) : List Value := (List.range n).map fun j => Value.int .u64 (f j)

theorem rowI_len (f : Nat → Int) (n : Nat) : (rowI f n).length = n := by simp [rowI]

theorem rowI_at (f : Nat → Int) (n j : Nat) (h : j < n) : (rowI f n)[j]? = some (.int .u64 (f j)) := by simp [rowI, h]

theorem rowI_out (f : Nat → Int) (n j : Nat) (h : ¬ j < n) : (rowI f n)[j]? = none := List.getElem?_eq_none (by rw [rowI_len]; omega)

theorem rowI_ext {l : List Value} {f : Nat → Int} {n : Nat} (hl : l.length = n) (h : ∀ j, j < n → l[j]? = some (.int .u64 (f j))) : l = rowI f n := by
  apply List.ext_getElem?
  intro j
  by_cases hj : j < n
  · rw [h j hj, rowI_at f n j hj]
  · rw [rowI_out f n j hj]; exact List.getElem?_eq_none (by omega)

theorem rowI_one (f : Nat → Int) (n : Nat) : ∀ v ∈ rowI f n, v.oneCell' = true := by
  intro v hv
  obtain ⟨j, _, rfl⟩ := List.mem_map.1 hv
  rfl

/-- The block g is a row of 2824 words, the j-th of them f j. -/
def RowIs (w : World) (g : Nat) (f : Nat → Int) : Prop := w.heap[g]? = some (.cells (rowI f 2824).toArray 23 (0, 0))

theorem RowIs.cell {w : World} {g : Nat} {f : Nat → Int} (h : RowIs w g f) (j : Nat) (hj : j < 2824) : w.cell? ⟨g, j, none⟩ = some (.int .u64 (f j)) := by
  rw [cell_of_row w g j _ _ _ h]
  simpa using rowI_at f 2824 j hj

theorem RowIs.frozen {w : World} {g : Nat} {f : Nat → Int} (h : RowIs w g f) (j : Nat) : w.frozen? ⟨g, j, none⟩ = false := frozen_of_row w g j _ _ h

theorem RowIs.lt {w : World} {g : Nat} {f : Nat → Int} (h : RowIs w g f) : g < w.heap.size := by
  by_cases hg : g < w.heap.size
  · exact hg
  · have e : w.heap[g]? = none := Array.getElem?_eq_none (by omega)
    unfold RowIs at h
    rw [e] at h
    cases h

theorem RowIs.later {w w' : World} {g : Nat} {f : Nat → Int} (h : RowIs w g f) {B : Nat} (hB : w.heap.size ≤ B) (hb : Below B w w') : RowIs w' g f := by
  have := h.lt
  show w'.heap[g]? = _
  rw [hb.block g (by omega)]; exact h

theorem RowIs.uAt {w : World} {g : Nat} {f : Nat → Int} (h : RowIs w g f) (n : Nat) (hn : n ≤ 2824) : UAt w (some ⟨g, 0, none⟩) n f :=
  .inr ⟨g, 0, rfl, h.lt, fun i hi => by rw [Nat.zero_add]; exact h.cell i (by omega)⟩

def updN (f : Nat → Int) (q : Nat) (v : Int) : Nat → Int := fun j => if j = q then v else f j

theorem set_rowI (f : Nat → Int) (n q : Nat) (v : Int) : (rowI f n).toArray.setIfInBounds q (.int .u64 v) = (rowI (updN f q v) n).toArray := by
  rw [List.setIfInBounds_toArray]
  congr 1
  apply rowI_ext (by rw [List.length_set, rowI_len])
  intro j hj
  rw [List.getElem?_set]
  unfold updN
  by_cases e : q = j
  · subst e
    rw [if_pos rfl, rowI_len, if_pos hj, if_pos rfl]
  · rw [if_neg e, if_neg (fun e' => e e'.symm), rowI_at f n j hj]

theorem RowIs.set {w : World} {g : Nat} {f : Nat → Int} (h : RowIs w g f) (q : Nat) (v : Int) : RowIs (w.setCell ⟨g, q, none⟩ (.int .u64 v)) g (updN f q v) := by
  show (w.setCell ⟨g, q, none⟩ (.int .u64 v)).heap[g]? = _
  rw [heap_setCell_same w g q _ _ _ h, set_rowI]

/-- What lies there behind a copy of m words to the place off. -/
def over (f h : Nat → Int) (off m : Nat) : Nat → Int := fun j => if off ≤ j ∧ j < off + m then h (j - off) else f j

theorem splice_rowI (f h : Nat → Int) (n off m : Nat) (hn : off + m ≤ n) : splice (rowI f n) off (rowI h m) = rowI (over f h off m) n := by
  apply rowI_ext (by rw [length_splice _ _ _ (by rw [rowI_len, rowI_len]; exact hn), rowI_len])
  intro j hj
  unfold splice over
  rw [rowI_len]
  by_cases h1 : j < off
  · rw [List.getElem?_append_left (by rw [List.length_take, rowI_len]; omega), List.getElem?_take, if_pos h1, rowI_at f n j hj, if_neg (by omega)]
  · rw [List.getElem?_append_right (by rw [List.length_take, rowI_len]; omega), List.length_take, rowI_len, Nat.min_eq_left (by omega)]
    by_cases h2 : j < off + m
    · rw [List.getElem?_append_left (by rw [rowI_len]; omega), rowI_at h m (j - off) (by omega), if_pos ⟨by omega, h2⟩]
    · rw [List.getElem?_append_right (by rw [rowI_len]; omega), rowI_len, List.getElem?_drop, if_neg (by omega)]
      have e : off + m + (j - off - m) = j := by omega
      rw [e, rowI_at f n j hj]

theorem splice_rows (f h : Nat → Int) (n off m : Nat) (hn : off + m ≤ n) : (rowI f n).toArray.toList.take off ++ rowI h m ++ (rowI f n).toArray.toList.drop (off + (rowI h m).length) = rowI (over f h off m) n := by
  rw [List.append_assoc]
  exact splice_rowI f h n off m hn

theorem Try.info22r : (Try.prog.info? 23).map (fun i => (i.zero, i.size, i.bytes)) = some (some (.int .u64 0), 1, 8) := by kernel_rfl

theorem zeros_rowI (n : Nat) : List.replicate n (Value.int .u64 0) = rowI (fun _ => 0) n := rowI_ext (by simp) fun j hj => by simp [hj]

theorem made_row {w : World} {B g n : Nat} (h : w.ownsRow B 23 1 (.slice (some ⟨g, 0, none⟩) n n) n (madeCells #[Value.int .u64 0] n).toList) : w.heap[g]? = some (.cells (rowI (fun _ => 0) n).toArray 23 (0, 0)) := by
  rcases h.2 with ⟨h', _⟩ | ⟨g', cap, cur, h', _, hg, _, _, hcs, htake⟩
  · simp at h'
  · simp only [Value.slice.injEq, Option.some.injEq, Addr.mk.injEq, and_true, true_and] at h'
    obtain ⟨rfl, rfl⟩ := h'
    have e : cur.toList = cur.toList.take (n * 1) := (List.take_of_length_le (by rw [Array.length_toList, hcs]; omega)).symm
    have e3 : cur = (rowI (fun _ => 0) n).toArray := by
      rw [← Array.toArray_toList (xs := cur), e, htake, toList_madeCells_one, zeros_rowI]
    rw [hg, e3]

theorem size22 : (Try.prog.info? 23).map (·.size) = some 1 := by kernel_rfl

/-- A copy into the row, from whatever slice of words: as many go over as fit. -/
theorem run_copy (w : World) (g off : Nat) (f h : Nat → Int) (sp : Option Addr) (sLen sCap d m : Nat) (hR : RowIs w g f) (hU : UAt w sp sLen h) (hd : off + d = 2824) (hm : m = Nat.min sLen d) (B : Nat) (w0 : World) (hb : Below B w0 w) (hB : B ≤ g) :
    ∃ w', (Builtin.copy_ #[30, 30] 3 #[.slice (some ⟨g, off, none⟩) d d, .slice sp sLen sCap]).run Try.prog w = .ok (.int .i64 m) w' ∧ Hid (RowIs w' g (over f h off m)) ∧ Below B w0 w' := by
  by_cases h0 : m = 0
  · have hr := run_copy_none (P := Try.prog) w 30 30 3 23 (some ⟨g, off, none⟩) sp d d sLen sCap Try.underlying30 size22 (by omega)
    refine ⟨w, ?_, ?_, hb⟩
    · rw [hr, h0]; rfl
    · have e : over f h off m = f := by
        funext j
        unfold over
        rw [if_neg (by omega)]
      rw [e]; exact hR
  · have hml : m ≤ sLen := by rw [hm]; exact Nat.min_le_left _ _
    have hmd : m ≤ d := by rw [hm]; exact Nat.min_le_right _ _
    obtain ⟨b, o, rfl, hlt, hc⟩ := hU.resolve_left (by omega)
    have hr := run_copy_row (P := Try.prog) w 30 30 3 23 g off d d ⟨b, o, none⟩ sLen sCap (rowI f 2824).toArray 23 (rowI h m) Try.underlying30 size22 hR (by rw [rowI_len, hm]) ?src ?fit (rowI_one _ _)
    case src =>
      intro j v hj
      by_cases hjm : j < m
      · rw [rowI_at h m j hjm] at hj
        cases hj
        rw [Addr.add_lit]
        exact hc j (by omega)
      · rw [rowI_out h m j hjm] at hj
        cases hj
    case fit => rw [rowI_len, List.size_toArray, rowI_len]; omega
    have e := splice_rows f h 2824 off m (by omega)
    rw [e, rowI_len] at hr
    exact ⟨_, hr, setRow_heap w g _ _ _ _ hR, below_setRow hb hB _⟩

end Go.Proofs.Ytdjnkibnnjobpaa

namespace Go.Proofs.Ytdjnkibnnjobpaa
open Go.RowKit Go.Maps Go.ChangeMaps

theorem Try.info22 : (Try.prog.info? 23).map (fun i => (i.zero, i.size, i.bytes)) = some (some (.int .u64 0), 1, 8) := by kernel_rfl

theorem Only.of_below_le {S : List Nat} {w w' : World} {B : Nat} (h : Below B w w') (hB : w.heap.size ≤ B) : Only S w w' := ⟨h.os, h.tape, h.output, h.size, fun k hk _ => h.block k (by omega)⟩

theorem MemIs.below {w w' : World} {L : Lay} {M : Mem} {B : Nat} (h : MemIs w L M) (hb : Below B w w') (hB : ∀ k ∈ L.blocks, k < B) : MemIs w' L M := h.of_blocks fun k hk _ => hb.block k (hB k hk)

theorem toList_zeros (n : Nat) : (madeCells (Value.int .u64 0).cells (n * 1)).toList = List.replicate n (Value.int .u64 0) := by
  rw [Nat.mul_one]; exact toList_madeCells_one _ _

theorem madeMap (w : World) : MapIs (w.alloc (.map #[] 0)) w.heap.size 0 (fun _ => none) := ⟨_, World.ownsMap_made w _ _ _, reads_empty⟩

/-- The world in which 'of' has made a memory. -/
def ofWorld (w : World) (sp : Option Addr) (n cap : Nat) : World :=
  ((w.alloc (.map #[] 0)).alloc (.map #[] 0)).alloc (.cells #[.slice sp n cap, .map (some w.heap.size), .map (some (w.heap.size + 1)), .int .i64 0, .bool false, .int .i64 0] 98)

theorem heap_alloc_at (w : World) (o : Obj) : (w.alloc o).heap[w.heap.size]? = some o := heap_alloc_new w o

theorem ofWorld_below (w : World) (sp : Option Addr) (n cap : Nat) : Below w.heap.size w (ofWorld w sp n cap) := by
  unfold ofWorld
  exact (((Below.refl _ _).alloc (Nat.le_refl _) _).alloc (by simp) _).alloc (by simp; omega) _

theorem ofWorld_is (w : World) (sp : Option Addr) (cap : Nat) (xs : List Int) (sb : Nat) (hrow : w.ownsRow 0 23 1 (.slice sp xs.length cap) xs.length (xs.map (Value.int .u64)))
    (hplace : sp = none ∧ sb = w.heap.size + 2 ∨ sp = some ⟨sb, 0, none⟩) (hlen : xs.length ≤ 4096) (hwords : ∀ v ∈ xs, (Lit.int .u64 v).wf = true) :
    MemIs (ofWorld w sp xs.length cap) ⟨w.heap.size + 2, sb, cap, w.heap.size, w.heap.size + 1, sp⟩ (fresh xs) where
  obj := by
    have h1 : ((w.alloc (.map #[] 0)).alloc (.map #[] 0)).heap.size = w.heap.size + 2 := by simp
    have h2 := heap_alloc_at ((w.alloc (.map #[] 0)).alloc (.map #[] 0)) (.cells #[.slice sp xs.length cap, .map (some w.heap.size), .map (some (w.heap.size + 1)), .int .i64 0, .bool false, .int .i64 0] 98)
    rw [h1] at h2
    exact h2
  row := ownsRow_of_block hrow fun g hg => (ofWorld_below w sp xs.length cap).block g (hrow.lt g hg).2
  place := hplace
  loose := (madeMap w).of_block (by
    unfold ofWorld
    rw [Below.heap_alloc _ _ _ (by simp; omega), Below.heap_alloc _ _ _ (by simp)])
  way := by
    have h1 : (w.alloc (.map #[] 0)).heap.size = w.heap.size + 1 := by simp
    have h2 := madeMap (w.alloc (.map #[] 0))
    rw [h1] at h2
    exact h2.of_block (by unfold ofWorld; rw [Below.heap_alloc _ _ _ (by simp)])
  ne := by simp
  looseIn := fun _ _ h => by cases h
  wayIn := fun _ _ h => by cases h
  len := hlen
  words := hwords

theorem of_any (w : World) (sp : Option Addr) (n cap : Nat) :
    Calls Try.prog 27 #[.slice sp n cap] w fun e w' => e = .returned (.pointer (some ⟨w.heap.size + 2, 0, none⟩)) ∧ w' = ofWorld w sp n cap := by
  have hmm := @run_makeMap Try.prog
  go_enter Try.func27, Try.ntmps27
  go_wp2
  go_ret
  refine ⟨?_, ?_⟩
  · simp
  · simp [ofWorld]

set_option maxHeartbeats 1000000 in
set_option maxRecDepth 100000 in
theorem clone_some (x : Addr) (cap : Nat) (xs : List Int) (w : World) (hlen : xs.length ≤ 4096) (hc : ∀ i, i < xs.length → w.cell? (x.add i) = some (.int .u64 (xs.getD i 0))) :
    Calls Try.prog 28 #[.slice (some x) xs.length cap] w fun e w' => ∃ v, e = .returned v ∧ w'.ownsRow w.heap.size 23 1 v xs.length (xs.map (Value.int .u64)) ∧ Below w.heap.size w w' := by
  obtain ⟨i0, hi, hz0, hz1, hz2⟩ := info_parts Try.info22
  have hown0 : (w.alloc (.cells #[] 23)).ownsRow w.heap.size 23 1 (.slice (some ⟨w.heap.size, 0, none⟩) 0 0) 0 [] := World.ownsRow_made w #[] 0 (Nat.le_refl _) (Nat.zero_le _) rfl
  have hnews : ∀ (j : Nat) (u : Value), (xs.map (Value.int .u64))[j]? = some u → (w.alloc (.cells #[] 23)).cell? (x.add j) = some u := fun j u hj => by
    have hjl : j < xs.length := by
      have := (List.getElem?_eq_some_iff.1 hj).1
      simpa using this
    have h1 := hc j hjl
    have hlt := World.block_lt_of_cell? w _ h1
    rw [World.cell?_of_block (w := w) (Below.heap_alloc _ _ _ hlt), h1]
    simp [hjl] at hj
    rw [← hj]; simp [hjl]
  have hone : ∀ u ∈ xs.map (Value.int .u64), u.oneCell' = true := fun u hu => by
    obtain ⟨n, _, rfl⟩ := List.mem_map.1 hu
    rfl
  have q45 : ∀ (w : World) (a : Option Addr) (n c n' c' : Nat), (binOp .eql 30 (.slice a n c) (.slice none n' c')).run Try.prog w = .ok (.bool a.isNone) w := fun w a n c n' c' => Lib.run_eql_slice_nil w _ _ a n c n' c' Try.underlying30
  go_enter Try.func28, Try.ntmps28
  go_wp2_with (first
    | (at_builtin; refine wpList_append_own _ rfl _ _ 30 rfl w.heap.size 23 i0 (.int .u64 0) 1 8 Try.underlying30 hi hz0 hz1 hz2 rfl (by decide) _ 0 [] rfl hown0 x xs.length cap (xs.map (Value.int .u64)) rfl (by simp) hnews hone (by unfold maxLen; omega) (by omega) (by simp) ?_; intro v' w1 hrow hg hnil)
    | go_in)
  go_ret
  refine ⟨v', rfl, by simpa using hrow, ?_⟩
  exact ((Below.refl _ _).alloc (Nat.le_refl _) _).grown hg (by simp) (fun k hk => by cases hk; exact Nat.le_refl _)

theorem mem_of_row (w w1 : World) (va : Option Addr) (vc : Nat) (xs : List Int) (hrow : w1.ownsRow w.heap.size 23 1 (.slice va xs.length vc) xs.length (xs.map (Value.int .u64))) (hlen : xs.length ≤ 4096) (hw : ∀ v ∈ xs, (Lit.int .u64 v).wf = true) (hb : Below w.heap.size w w1) :
    ∃ L : Lay, L.mb = w1.heap.size + 2 ∧ MemIs (ofWorld w1 va xs.length vc) L (fresh xs) ∧ (∀ j ∈ L.blocks, w.heap.size ≤ j) ∧ Below w.heap.size w (ofWorld w1 va xs.length vc) := by
  have hs := hb.size
  have hb' := hb.trans ((ofWorld_below w1 va xs.length vc).mono hs)
  rcases hrow.2 with ⟨e, e0⟩ | ⟨g, c, cur, e, hg, _⟩
  · simp only [Value.slice.injEq] at e
    obtain ⟨rfl, _, rfl⟩ := e
    refine ⟨⟨w1.heap.size + 2, w1.heap.size + 2, 0, w1.heap.size, w1.heap.size + 1, none⟩, rfl, ofWorld_is w1 none 0 xs _ (ownsRow_base_a hrow (Nat.zero_le _)) (.inl ⟨rfl, rfl⟩) hlen hw, ?_, hb'⟩
    intro j hj
    simp only [Lay.blocks, List.mem_cons, List.not_mem_nil, or_false] at hj
    omega
  · simp only [Value.slice.injEq] at e
    obtain ⟨rfl, _, rfl⟩ := e
    refine ⟨⟨w1.heap.size + 2, g, _, w1.heap.size, w1.heap.size + 1, some ⟨g, 0, none⟩⟩, rfl, ofWorld_is w1 _ _ xs g (ownsRow_base_a hrow (Nat.zero_le _)) (.inr rfl) hlen hw, ?_, hb'⟩
    intro j hj
    simp only [Lay.blocks, List.mem_cons, List.not_mem_nil, or_false] at hj
    omega

/-- Load of words that lie at a place. -/
theorem load_any (b o cap : Nat) (xs : List Int) (w : World) (hlen : xs.length ≤ 4096) (hcap : xs.length ≤ cap) (hw : ∀ v ∈ xs, (Lit.int .u64 v).wf = true) (hc : ∀ i, i < xs.length → w.cell? ⟨b, o + i, none⟩ = some (.int .u64 (xs.getD i 0))) :
    Calls Try.prog 9 #[.slice (some ⟨b, o, none⟩) xs.length cap] w fun e w' => ∃ L : Lay, e = .returned (.pointer (some ⟨L.mb, 0, none⟩)) ∧ MemIs w' L (fresh xs) ∧ (∀ j ∈ L.blocks, w.heap.size ≤ j) ∧ Below w.heap.size w w' := by
  have hof := of_any
  have hcl := clone_some ⟨b, o, none⟩ cap xs w hlen (fun i hi => by rw [add_none]; exact hc i hi)
  have HX : Hid (∀ v ∈ xs, (Lit.int .u64 v).wf = true) := hw
  obtain ⟨k, hk⟩ : ∃ k, xs.length = k := ⟨_, rfl⟩
  have HK : Hid (xs.length = k) := hk
  have hm : min (k : Int) 4096 = (k : Int) := by omega
  have hkc : k ≤ cap := by omega
  rw [hk] at hcl hlen ⊢
  have HCL : Hid _ := hcl
  clear hcl hc hw hk hcap
  go_enter Try.func9, Try.ntmps9
  go_wp2_with (first
    | (go_at_call 28; refine Calls.mono (Hid.out HCL) ?_; rintro e w1 ⟨v, rfl, hrow, hb⟩; obtain ⟨va, vc, rfl, _⟩ := ownsRow_form0 hrow)
    | (go_at_call 27; refine (hof _ _ _ _).mono ?_; rintro e w2 ⟨rfl, rfl⟩)
    | go_in)
  go_ret
  have hx := HK.out
  subst hx
  obtain ⟨L, e1, e2, e3, e4⟩ := mem_of_row w w1 va vc _ hrow hlen HX.out hb
  exact ⟨L, by rw [e1]; rfl, e2, e3, e4⟩

end Go.Proofs.Ytdjnkibnnjobpaa

namespace Go.Proofs.Ytdjnkibnnjobpaa
open Go.RowKit Go.Maps Go.ChangeMaps

theorem zero4 (w : World) : (zeroValue 4).run Try.prog w = .ok (.bool false) w := by kernel_rfl

/-- The datum D holds true at just the places of s. -/
def BReads (D : DataW Unit) (s : Int → Bool) : Prop := ∀ k : Int, D.atKey (.int .i64 k) (.lit (.bool false)) = .lit (.bool (s k))

/-- Block b is a map of at most n entries that holds true at just the places of s. -/
def BMapIs (w : World) (b n : Nat) (s : Int → Bool) : Prop :=
  ∃ D : DataW Unit, w.ownsMap Try.prog 3 (plainElem Try.prog 4) b n D ∧ BReads D s

theorem plainElem_bool_inv {P : Program} {e : TypeId} (he : P.underlying e = some .bool) {v : Value} {z : DataW Unit × List MemPlace} (h : plainElem P e v = some z) : ∃ x, v = .bool x ∧ z = (.lit (.bool x), []) := by
  unfold plainElem at h
  rw [he] at h
  cases v <;> simp at h
  exact ⟨_, rfl, h.symm⟩

theorem BMapIs.run {w : World} {b n : Nat} {s : Int → Bool} (h : BMapIs w b n s) {k : Int} (hwk : (Lit.int .i64 k).wf = true) : (Instr.lookup 66 (.map (some b)) (.int .i64 k) false).run Try.prog w = .ok (.bool (s k)) w := by
  obtain ⟨D, hown, hr⟩ := h
  obtain ⟨v, ps, hrun, hv⟩ := hown.lookup law3 Try.underlying66 (zero4 _) (plainElem_bool Try.underlying4 false) (keyOf_int_mk Try.underlying3 hwk)
  obtain ⟨x, rfl, hx⟩ := plainElem_bool_inv Try.underlying4 hv
  rw [hr k] at hx
  cases hx
  exact hrun

theorem bmade (w : World) : BMapIs (w.alloc (.map #[] 0)) w.heap.size 0 (fun _ => false) := ⟨_, World.ownsMap_made w _ _ _, fun _ => rfl⟩

theorem BMapIs.of_block {w w' : World} {b n : Nat} {s : Int → Bool} (h : BMapIs w b n s) (hb : w'.heap[b]? = w.heap[b]?) : BMapIs w' b n s := by
  obtain ⟨D, ⟨es, c, h1, r⟩, h2⟩ := h
  exact ⟨D, ⟨es, c, hb.trans h1, r⟩, h2⟩

theorem BMapIs.lt {w : World} {b n : Nat} {s : Int → Bool} (h : BMapIs w b n s) : b < w.heap.size := let ⟨_, h1, _⟩ := h; h1.lt

theorem BMapIs.congr {w : World} {b n : Nat} {s t : Int → Bool} (h : BMapIs w b n s) (e : ∀ k, t k = s k) : BMapIs w b n t := by
  obtain ⟨D, h1, h2⟩ := h
  exact ⟨D, h1, fun k => by rw [e k]; exact h2 k⟩

section
variable (w : World) {ops : Array Oper} {rest : List Oper} {o : Oper} {a : Act} {Q : Exit → Act → World → Prop}
theorem wpList_bput (hg : o.guard = none) (m x v : Operand) (hop : o.op = Op.mapUpdate 66 m x v) (b n : Nat) (s : Int → Bool) (k : Int)
    (hm : a.eval m = .map (some b)) (h : BMapIs w b n s) (hn : n < maxLen) (hx : a.eval x = .int .i64 k) (hv : a.eval v = .bool true) (hwk : (Lit.int .i64 k).wf = true)
    (hK : ∀ w', BMapIs w' b (n + 1) (fun j => decide (j = k) || s j) → w.mapTurned w' b → wpList Try.prog ops Q rest (a.put o.dst undef) w') :
    wpList Try.prog ops Q (o :: rest) a w := by
  obtain ⟨D, hown, hr⟩ := h
  refine wpList_mapUpdate_in w hg m x v 66 hop 3 4 law3 Try.underlying66 _ b n D hm hown hn _ _ _ hx hv (keyOf_int_mk Try.underlying3 hwk) _ [] (plainElem_bool Try.underlying4 true) ?_
  intro w1 hown1 hturn
  refine hK w1 ⟨_, hown1, fun j => ?_⟩ hturn
  by_cases e : j = k
  · subst e
    rw [atKey_put_same hown.isMap (k := .int .i64 j) trivial]; simp
  · rw [atKey_put_other (key_ne e), hr j]; simp [e]

end

/-- May a change name the word? -/
abbrev openI (a : Int) : Prop := 8 ≤ a ∧ a < 296 ∨ 1288 ≤ a ∧ a < 2824

theorem openB_iff (a : Int) : openB a = true ↔ openI a := by
  unfold openB openI
  rcases places a with h | h | ⟨h, h'⟩ | ⟨h, h'⟩ | ⟨h, h'⟩ | ⟨h, h'⟩ | ⟨h, h'⟩
  · rw [(ki_neg h).1]; simp; omega
  · rw [(ki_far h).1]; simp; omega
  · rw [(ki_head h h').1]; simp; omega
  · rw [(ki_card h h').1]; simp; omega
  · rw [(ki_owner h h').1]; simp; omega
  · rw [(ki_log h h').1]; simp; omega
  · rw [(ki_data h h').1]; simp; omega

end Go.Proofs.Ytdjnkibnnjobpaa

namespace Go.Proofs.Ytdjnkibnnjobpaa
open Go.RowKit Go.Maps Go.ChangeMaps

/-- The datum D holds true at just the places of s, and has no other key. -/
def SReads (D : DataW Unit) (s : Int → Bool) : Prop := ∀ k : Int, Maps.has D (.int .i64 k) = s k ∧ (s k = true → ∀ zd, D.atKey (.int .i64 k) zd = .lit (.bool true))
/-- Block b is a map of at most n entries that holds true at just the places of s. -/
def SetIs (w : World) (b n : Nat) (s : Int → Bool) : Prop := ∃ D : DataW Unit, w.ownsMap Try.prog 3 (plainElem Try.prog 4) b n D ∧ SReads D s

theorem SReads.look {D : DataW Unit} {s : Int → Bool} (h : SReads D s) (k : Int) : D.atKey (.int .i64 k) (.lit (.bool false)) = .lit (.bool (s k)) := by
  obtain ⟨h1, h2⟩ := h k
  cases hs : s k with
  | true => exact h2 hs _
  | false =>
    rw [hs] at h1
    exact atKey_of_not_has h1 _
theorem SetIs.run {w : World} {b n : Nat} {s : Int → Bool} (h : SetIs w b n s) {k : Int} (hwk : (Lit.int .i64 k).wf = true) : (Instr.lookup 66 (.map (some b)) (.int .i64 k) false).run Try.prog w = .ok (.bool (s k)) w := by
  obtain ⟨D, hown, hr⟩ := h
  obtain ⟨v, ps, hrun, hv⟩ := hown.lookup law3 Try.underlying66 (zero4 _) (plainElem_bool Try.underlying4 false) (keyOf_int_mk Try.underlying3 hwk)
  obtain ⟨x, rfl, hx⟩ := plainElem_bool_inv Try.underlying4 hv
  rw [hr.look k] at hx
  cases hx
  exact hrun
theorem smade (w : World) : SetIs (w.alloc (.map #[] 0)) w.heap.size 0 (fun _ => false) := ⟨_, World.ownsMap_made w _ _ _, fun _ => ⟨rfl, fun h => by cases h⟩⟩
theorem SetIs.of_block {w w' : World} {b n : Nat} {s : Int → Bool} (h : SetIs w b n s) (hb : w'.heap[b]? = w.heap[b]?) : SetIs w' b n s := by
  obtain ⟨D, ⟨es, c, h1, r⟩, h2⟩ := h
  exact ⟨D, ⟨es, c, hb.trans h1, r⟩, h2⟩
theorem SetIs.lt {w : World} {b n : Nat} {s : Int → Bool} (h : SetIs w b n s) : b < w.heap.size := let ⟨_, h1, _⟩ := h; h1.lt
theorem SetIs.mono {w : World} {b n n' : Nat} {s : Int → Bool} (h : SetIs w b n s) (hn : n ≤ n') : SetIs w b n' s := let ⟨D, h1, h2⟩ := h; ⟨D, h1.mono hn, h2⟩
theorem SetIs.congr {w : World} {b n : Nat} {s t : Int → Bool} (h : SetIs w b n s) (e : ∀ k, t k = s k) : SetIs w b n t := by
  obtain ⟨D, h1, h2⟩ := h
  exact ⟨D, h1, fun k => by rw [e k]; exact h2 k⟩
theorem SetIs.block {w : World} {b n : Nat} {s : Int → Bool} (h : SetIs w b n s) : ∃ es c, w.heap[b]? = some (.map es c) := let ⟨_, ⟨es, c, hb, _⟩, _⟩ := h; ⟨es, c, hb⟩
/-- With k, too. -/
def addB (s : Int → Bool) (k : Int) : Int → Bool := fun j => decide (j = k) || s j
theorem sreads_put {D : DataW Unit} {s : Int → Bool} (h : SReads D s) (hD : IsMap D) (k : Int) : SReads (D.put (.int .i64 k) (.lit (.bool true))) (addB s k) := by
  intro j
  unfold addB
  by_cases e : j = k
  · subst e
    exact ⟨(has_put_same hD (k := .int .i64 j) trivial _).trans (by simp), fun _ zd => atKey_put_same hD (k := .int .i64 j) trivial _ _⟩
  · refine ⟨(has_put_other (key_ne e) _).trans ((h j).1.trans (by simp [e])), fun hs zd => ?_⟩
    rw [atKey_put_other (key_ne e)]
    exact (h j).2 (by simpa [e] using hs) zd

section
variable (w : World) {ops : Array Oper} {rest : List Oper} {o : Oper} {a : Act} {Q : Exit → Act → World → Prop}
theorem wpList_sput (hg : o.guard = none) (m x v : Operand) (hop : o.op = Op.mapUpdate 66 m x v) (b n : Nat) (s : Int → Bool) (k : Int)
    (hm : a.eval m = .map (some b)) (h : SetIs w b n s) (hn : n < maxLen) (hx : a.eval x = .int .i64 k) (hv : a.eval v = .bool true) (hwk : (Lit.int .i64 k).wf = true)
    (hK : ∀ w', SetIs w' b (n + 1) (addB s k) → w.mapTurned w' b → wpList Try.prog ops Q rest (a.put o.dst undef) w') :
    wpList Try.prog ops Q (o :: rest) a w := by
  obtain ⟨D, hown, hr⟩ := h
  refine wpList_mapUpdate_in w hg m x v 66 hop 3 4 law3 Try.underlying66 _ b n D hm hown hn _ _ _ hx hv (keyOf_int_mk Try.underlying3 hwk) _ [] (plainElem_bool Try.underlying4 true) ?_
  intro w1 hown1 hturn
  exact hK w1 ⟨_, hown1, sreads_put hr hown.isMap k⟩ hturn
end

/-- A set that may be nil. -/
def OSet (w : World) (x : Option Nat) (s : Int → Bool) : Prop := match x with
  | none => ∀ k, s k = false
  | some b => ∃ n, SetIs w b n s
theorem OSet.run {w : World} {x : Option Nat} {s : Int → Bool} (h : OSet w x s) {k : Int} (hwk : (Lit.int .i64 k).wf = true) : (Instr.lookup 66 (.map x) (.int .i64 k) false).run Try.prog w = .ok (.bool (s k)) w := by
  cases x with
  | some b => obtain ⟨n, h⟩ := h; exact SetIs.run h hwk
  | none =>
    have e := h k
    have hr := Maps.look_nil (w := w) (P := Try.prog) (k := 3) (t := 66) (e := 4) false law3 Try.underlying66 (zero4 _) (keyOf_int_mk Try.underlying3 hwk)
    rw [e]
    exact hr
theorem OSet.of_blocks {w w' : World} {x : Option Nat} {s : Int → Bool} (h : OSet w x s) (hb : ∀ b, x = some b → b < w.heap.size → w'.heap[b]? = w.heap[b]?) : OSet w' x s := by
  cases x with
  | none => exact h
  | some b => obtain ⟨n, h⟩ := h; exact ⟨n, SetIs.of_block h (hb b rfl (SetIs.lt h))⟩
theorem OSet.lt {w : World} {b : Nat} {s : Int → Bool} (h : OSet w (some b) s) : b < w.heap.size := let ⟨_, h⟩ := h; SetIs.lt h

/-- Where a view's parts lie: its object, its memory, its words, what it has noted, what it is to leave alone (if that was said). -/
structure VLay where
  vb : Nat
  mb : Nat
  ob : Nat
  sb : Nat
  nb : Nat
  bb : Option Nat
  db : Option Nat
/-- What a view has written, and noted; what it is to leave alone. -/
structure Vw where
  own : Int → Option Int
  seen : Int → Bool
  mine : Int → Bool
  away : Int → Bool
  awayN : Int → Bool

/-- The blocks that its calls change; all of its blocks. -/
def VLay.blocks (V : VLay) : List Nat := [V.vb, V.ob, V.sb, V.nb]
def VLay.all (V : VLay) : List Nat := V.blocks ++ V.bb.toList ++ V.db.toList
def VLay.obj (V : VLay) : Obj := .cells #[.pointer (some ⟨V.mb, 0, none⟩), .map (some V.ob), .map (some V.sb), .map (some V.nb), .map V.bb, .map V.db] 68 (0, 0)
/-- The word that the view reads. -/
def Vw.word (S : Vw) (M : Mem) (k : Int) : Int := (S.own k).getD (M.read k)
/-- Nothing is written or noted. -/
def Vw.clean (S : Vw) : Vw := ⟨fun _ => none, fun _ => false, fun _ => false, S.away, S.awayN⟩
def Vw.new : Vw := ⟨fun _ => none, fun _ => false, fun _ => false, fun _ => false, fun _ => false⟩

structure ViewIs (w : World) (V : VLay) (S : Vw) (N : Nat) : Prop where
  obj : w.heap[V.vb]? = some V.obj
  own : MapIs w V.ob N S.own
  seen : SetIs w V.sb N S.seen
  mine : SetIs w V.nb N S.mine
  away : OSet w V.bb S.away
  awayN : OSet w V.db S.awayN
  apart : V.ob ≠ V.sb ∧ V.ob ≠ V.nb ∧ V.sb ≠ V.nb
  apartB : ∀ x, V.bb = some x → x ≠ V.ob ∧ x ≠ V.sb ∧ x ≠ V.nb
  apartD : ∀ x, V.db = some x → x ≠ V.ob ∧ x ≠ V.sb ∧ x ≠ V.nb
  inside : ∀ k v, S.own k = some v → openI k
  seenIn : ∀ k, S.seen k = true → 0 ≤ k ∧ k < 24
  mineIn : ∀ k, S.mine k = true → 0 ≤ k ∧ k < 24

section
variable {w w' : World} {V : VLay} {S : Vw} {N : Nat}
theorem ViewIs.lt (h : ViewIs w V S N) : V.vb < w.heap.size := (Array.getElem?_eq_some_iff.1 h.obj).1
theorem ViewIs.cell (h : ViewIs w V S N) (i : Nat) : w.cell? ⟨V.vb, i, none⟩ = (#[.pointer (some ⟨V.mb, 0, none⟩), .map (some V.ob), .map (some V.sb), .map (some V.nb), .map V.bb, .map V.db] : Array Value)[i]? := by
  simp [World.cell?, h.obj, VLay.obj]
theorem ViewIs.c0 (h : ViewIs w V S N) : w.cell? ⟨V.vb, 0, none⟩ = some (.pointer (some ⟨V.mb, 0, none⟩)) := by rw [h.cell]; rfl
theorem ViewIs.c1 (h : ViewIs w V S N) : w.cell? ⟨V.vb, 1, none⟩ = some (.map (some V.ob)) := by rw [h.cell]; rfl
theorem ViewIs.c2 (h : ViewIs w V S N) : w.cell? ⟨V.vb, 2, none⟩ = some (.map (some V.sb)) := by rw [h.cell]; rfl
theorem ViewIs.c3 (h : ViewIs w V S N) : w.cell? ⟨V.vb, 3, none⟩ = some (.map (some V.nb)) := by rw [h.cell]; rfl
theorem ViewIs.c4 (h : ViewIs w V S N) : w.cell? ⟨V.vb, 4, none⟩ = some (.map V.bb) := by rw [h.cell]; rfl
theorem ViewIs.c5 (h : ViewIs w V S N) : w.cell? ⟨V.vb, 5, none⟩ = some (.map V.db) := by rw [h.cell]; rfl
theorem ViewIs.fz (h : ViewIs w V S N) (i : Nat) : w.frozen? ⟨V.vb, i, none⟩ = false := by simp [World.frozen?, h.obj, VLay.obj]
theorem ViewIs.vb_map (h : ViewIs w V S N) {b : Nat} {es : Array MapEntry} {c : Nat} (hb : w.heap[b]? = some (.map es c)) : V.vb ≠ b := by
  intro e; rw [← e, h.obj] at hb; cases hb
theorem ViewIs.vb_ob (h : ViewIs w V S N) : V.vb ≠ V.ob := let ⟨_, _, hb⟩ := h.own.block; h.vb_map hb
theorem ViewIs.vb_sb (h : ViewIs w V S N) : V.vb ≠ V.sb := let ⟨_, _, hb⟩ := h.seen.block; h.vb_map hb
theorem ViewIs.vb_nb (h : ViewIs w V S N) : V.vb ≠ V.nb := let ⟨_, _, hb⟩ := h.mine.block; h.vb_map hb
theorem OSet.block {b : Nat} {s : Int → Bool} (h : OSet w (some b) s) : ∃ es c, w.heap[b]? = some (.map es c) := let ⟨_, h⟩ := h; SetIs.block h
theorem ViewIs.vb_bb (h : ViewIs w V S N) {x : Nat} (e : V.bb = some x) : V.vb ≠ x := by
  have := h.away
  rw [e] at this
  obtain ⟨_, _, hb⟩ := this.block
  exact h.vb_map hb
theorem ViewIs.vb_db (h : ViewIs w V S N) {x : Nat} (e : V.db = some x) : V.vb ≠ x := by
  have := h.awayN
  rw [e] at this
  obtain ⟨_, _, hb⟩ := this.block
  exact h.vb_map hb
theorem ViewIs.all_lt (h : ViewIs w V S N) : ∀ k ∈ V.all, k < w.heap.size := by
  intro k hk
  simp only [VLay.all, VLay.blocks, List.mem_append, List.mem_cons, List.not_mem_nil, or_false, Option.mem_toList] at hk
  rcases hk with ((rfl | rfl | rfl | rfl) | hk) | hk
  · exact h.lt
  · exact h.own.lt
  · exact h.seen.lt
  · exact h.mine.lt
  · have := h.away
    rw [hk] at this
    exact this.lt
  · have := h.awayN
    rw [hk] at this
    exact this.lt
theorem VLay.blocks_all (V : VLay) : ∀ k ∈ V.blocks, k ∈ V.all := fun k hk => by simp [VLay.all, hk]
theorem ViewIs.mono (h : ViewIs w V S N) {N' : Nat} (hn : N ≤ N') : ViewIs w V S N' :=
  ⟨h.obj, h.own.mono hn, h.seen.mono hn, h.mine.mono hn, h.away, h.awayN, h.apart, h.apartB, h.apartD, h.inside, h.seenIn, h.mineIn⟩
/-- A view stays what it is while its own blocks stay. -/
theorem ViewIs.of_blocks (h : ViewIs w V S N) (hb : ∀ k ∈ V.all, k < w.heap.size → w'.heap[k]? = w.heap[k]?) : ViewIs w' V S N where
  obj := (hb _ (by simp [VLay.all, VLay.blocks]) h.lt).trans h.obj
  own := h.own.of_block (hb _ (by simp [VLay.all, VLay.blocks]) h.own.lt)
  seen := h.seen.of_block (hb _ (by simp [VLay.all, VLay.blocks]) h.seen.lt)
  mine := h.mine.of_block (hb _ (by simp [VLay.all, VLay.blocks]) h.mine.lt)
  away := h.away.of_blocks fun b e hl => hb b (by simp [VLay.all, e]) hl
  awayN := h.awayN.of_blocks fun b e hl => hb b (by simp [VLay.all, e]) hl
  apart := h.apart
  apartB := h.apartB
  apartD := h.apartD
  inside := h.inside
  seenIn := h.seenIn
  mineIn := h.mineIn
theorem ViewIs.kept {X : List Nat} (h : ViewIs w V S N) (ho : Only X w w') (hX : ∀ k ∈ V.all, k ∉ X) : ViewIs w' V S N := h.of_blocks fun k hk hl => ho.block k hl (hX k hk)
theorem ViewIs.below {B : Nat} (h : ViewIs w V S N) (hb : Below B w w') (hB : ∀ k ∈ V.all, k < B) : ViewIs w' V S N := h.of_blocks fun k hk _ => hb.block k (hB k hk)
theorem ViewIs.later (h : ViewIs w V S N) (hb : Below w.heap.size w w') : ViewIs w' V S N := h.below hb h.all_lt
theorem MemIs.later {L : Lay} {M : Mem} (h : MemIs w L M) (hb : Below w.heap.size w w') : MemIs w' L M := h.below hb h.all_lt

/-- Its words alone have changed. -/
theorem ViewIs.newOwn (h : ViewIs w V S N) {n : Nat} {f : Int → Option Int} (hm : MapIs w' V.ob n f) (hn : n ≤ N + 1) (ho : Only [V.ob] w w') (hf : ∀ k v, f k = some v → openI k) : ViewIs w' V { S with own := f } (N + 1) := by
  have k1 : ∀ k ∈ V.all, k ≠ V.ob → k < w.heap.size → w'.heap[k]? = w.heap[k]? := fun k _ hk hl => ho.block k hl (by simpa using hk)
  have g := h.mono (Nat.le_succ N)
  exact ⟨(k1 _ (by simp [VLay.all, VLay.blocks]) h.vb_ob h.lt).trans h.obj, hm.mono hn, g.seen.of_block (k1 _ (by simp [VLay.all, VLay.blocks]) h.apart.1.symm h.seen.lt), g.mine.of_block (k1 _ (by simp [VLay.all, VLay.blocks]) h.apart.2.1.symm h.mine.lt),
    g.away.of_blocks fun b e hl => k1 b (by simp [VLay.all, e]) (h.apartB b e).1 hl, g.awayN.of_blocks fun b e hl => k1 b (by simp [VLay.all, e]) (h.apartD b e).1 hl, h.apart, h.apartB, h.apartD, hf, h.seenIn, h.mineIn⟩
/-- What it has noted as read alone has changed. -/
theorem ViewIs.newSeen (h : ViewIs w V S N) {n : Nat} {f : Int → Bool} (hm : SetIs w' V.sb n f) (hn : n ≤ N + 1) (ho : Only [V.sb] w w') (hf : ∀ k, f k = true → 0 ≤ k ∧ k < 24) : ViewIs w' V { S with seen := f } (N + 1) := by
  have k1 : ∀ k ∈ V.all, k ≠ V.sb → k < w.heap.size → w'.heap[k]? = w.heap[k]? := fun k _ hk hl => ho.block k hl (by simpa using hk)
  have g := h.mono (Nat.le_succ N)
  exact ⟨(k1 _ (by simp [VLay.all, VLay.blocks]) h.vb_sb h.lt).trans h.obj, g.own.of_block (k1 _ (by simp [VLay.all, VLay.blocks]) h.apart.1 h.own.lt), hm.mono hn, g.mine.of_block (k1 _ (by simp [VLay.all, VLay.blocks]) h.apart.2.2.symm h.mine.lt),
    g.away.of_blocks fun b e hl => k1 b (by simp [VLay.all, e]) (h.apartB b e).2.1 hl, g.awayN.of_blocks fun b e hl => k1 b (by simp [VLay.all, e]) (h.apartD b e).2.1 hl, h.apart, h.apartB, h.apartD, h.inside, hf, h.mineIn⟩
/-- What it has noted as set alone has changed. -/
theorem ViewIs.newMine (h : ViewIs w V S N) {n : Nat} {f : Int → Bool} (hm : SetIs w' V.nb n f) (hn : n ≤ N + 1) (ho : Only [V.nb] w w') (hf : ∀ k, f k = true → 0 ≤ k ∧ k < 24) : ViewIs w' V { S with mine := f } (N + 1) := by
  have k1 : ∀ k ∈ V.all, k ≠ V.nb → k < w.heap.size → w'.heap[k]? = w.heap[k]? := fun k _ hk hl => ho.block k hl (by simpa using hk)
  have g := h.mono (Nat.le_succ N)
  exact ⟨(k1 _ (by simp [VLay.all, VLay.blocks]) h.vb_nb h.lt).trans h.obj, g.own.of_block (k1 _ (by simp [VLay.all, VLay.blocks]) h.apart.2.1 h.own.lt), g.seen.of_block (k1 _ (by simp [VLay.all, VLay.blocks]) h.apart.2.2 h.seen.lt), hm.mono hn,
    g.away.of_blocks fun b e hl => k1 b (by simp [VLay.all, e]) (h.apartB b e).2.2 hl, g.awayN.of_blocks fun b e hl => k1 b (by simp [VLay.all, e]) (h.apartD b e).2.2 hl, h.apart, h.apartB, h.apartD, h.inside, h.seenIn, hf⟩
theorem addB_in {s : Int → Bool} {a b : Int} (h : ∀ k, s k = true → a ≤ k ∧ k < b) {x : Int} (hx : a ≤ x ∧ x < b) : ∀ k, addB s x k = true → a ≤ k ∧ k < b := by
  intro k hk
  unfold addB at hk
  simp only [Bool.or_eq_true, decide_eq_true_eq] at hk
  rcases hk with rfl | hk
  · exact hx
  · exact h k hk
end

end Go.Proofs.Ytdjnkibnnjobpaa

namespace Go.Proofs.Ytdjnkibnnjobpaa
open Go.RowKit Go.Maps Go.ChangeMaps

theorem void_any (V : VLay) (S : Vw) (N : Nat) (w : World) (h : ViewIs w V S N) :
    Calls Try.prog 44 #[.pointer (some ⟨V.vb, 0, none⟩)] w fun e w' => e = .returned (.bool false) ∧ w' = w := by
  have c0 := h.c0
  clear h
  go_enter Try.func44, Try.ntmps44
  go_wp2
  go_ret
  exact ⟨rfl, rfl⟩

theorem vread_any (V : VLay) (S : Vw) (N : Nat) (L : Lay) (M : Mem) (k : Int) (w : World) (h : ViewIs w V S N) (hm : MemIs w L M) (hv : V.mb = L.mb) (hk : (Lit.int .i64 k).wf = true) :
    Calls Try.prog 57 #[.pointer (some ⟨V.vb, 0, none⟩), .int .i64 k] w fun e w' => e = .returned (.int .u64 (S.word M k)) ∧ w' = w := by
  have c0 := h.c0
  have c1 := h.c1
  rw [hv] at c0
  cases hl : S.own k with
  | none =>
    have hr : S.word M k = M.read k := by simp [Vw.word, hl]
    rw [hr]
    go_enter Try.func57, Try.ntmps57
    go_wp2_with (first
      | (go_at_call 44; refine (void_any V S N _ h).mono ?_; rintro e w' ⟨rfl, hw⟩; obtain rfl := hw.symm)
      | (at_lookup; refine wpList_look2 _ rfl _ _ rfl V.ob N S.own k 0 false rfl h.own rfl hk (by rw [hl]; rfl) (by rw [hl]; rfl) ?_)
      | (go_at_call 56; refine (read_any L M k _ hm hk).mono ?_; rintro e w' ⟨rfl, hw⟩; obtain rfl := hw.symm)
      | go_in)
    go_ret
    exact ⟨rfl, rfl⟩
  | some v =>
    have hr : S.word M k = v := by simp [Vw.word, hl]
    rw [hr]
    go_enter Try.func57, Try.ntmps57
    go_wp2_with (first
      | (go_at_call 44; refine (void_any V S N _ h).mono ?_; rintro e w' ⟨rfl, hw⟩; obtain rfl := hw.symm)
      | (at_lookup; refine wpList_look2 _ rfl _ _ rfl V.ob N S.own k v true rfl h.own rfl hk (by rw [hl]; rfl) (by rw [hl]; rfl) ?_)
      | go_in)
    go_ret
    exact ⟨rfl, rfl⟩

theorem upd_in {f : Int → Option Int} (h : ∀ k v, f k = some v → openI k) {x : Int} (hx : openI x) (c : Int) : ∀ k v, upd f x (some c) k = some v → openI k := by
  intro k v hk
  by_cases e : k = x
  · subst e; exact hx
  · rw [upd_other _ _ e] at hk; exact h k v hk

theorem vwrite_no (V : VLay) (S : Vw) (N : Nat) (k v : Int) (w : World) (h : ViewIs w V S N) (hk : openB k = false) :
    Calls Try.prog 61 #[.pointer (some ⟨V.vb, 0, none⟩), .int .i64 k, .int .u64 v] w fun e w' => e = .returned (.int .i64 1) ∧ w' = w := by
  have H : Hid (Calls Try.prog 70 #[.int .i64 k] w fun e w' => e = .returned (.bool false) ∧ w' = w) := by
    have := open_any k w
    rw [hk] at this
    exact this
  go_enter Try.func61, Try.ntmps61
  go_wp2_with (first
    | (go_at_call 44; refine (void_any V S N _ h).mono ?_; rintro e w' ⟨rfl, hw⟩; obtain rfl := hw.symm)
    | (go_at_call 70; refine Calls.mono (Hid.out H) ?_; rintro e w' ⟨rfl, hw⟩; obtain rfl := hw.symm)
    | go_in)
  go_ret
  exact ⟨rfl, rfl⟩

theorem vwrite_yes (V : VLay) (S : Vw) (N : Nat) (k v : Int) (w : World) (h : ViewIs w V S N) (hk : openB k = true) (hN : N < 1000000000) (hwk : (Lit.int .i64 k).wf = true) (hwv : (Lit.int .u64 v).wf = true) :
    Calls Try.prog 61 #[.pointer (some ⟨V.vb, 0, none⟩), .int .i64 k, .int .u64 v] w fun e w' => e = .returned (.int .i64 0) ∧ ViewIs w' V { S with own := upd S.own k (some v) } (N + 1) ∧ Only [V.ob] w w' := by
  have H : Hid (Calls Try.prog 70 #[.int .i64 k] w fun e w' => e = .returned (.bool true) ∧ w' = w) := by
    have := open_any k w
    rw [hk] at this
    exact this
  have c1 := h.c1
  have ho := (openB_iff k).1 hk
  go_enter Try.func61, Try.ntmps61
  go_wp2_with (first
    | (go_at_call 44; refine (void_any V S N _ h).mono ?_; rintro e w' ⟨rfl, hw⟩; obtain rfl := hw.symm)
    | (go_at_call 70; refine Calls.mono (Hid.out H) ?_; rintro e w' ⟨rfl, hw⟩; obtain rfl := hw.symm)
    | (at_mapUpdate; refine wpList_put _ rfl _ _ _ rfl V.ob N S.own k v rfl h.own (by unfold maxLen; omega) rfl rfl hwk hwv ?_; intro w2 hm2 ht2)
    | go_in)
  go_ret
  have hO : Only [V.ob] w w2 := (Only.refl _ _).turned ht2 (by simp)
  exact ⟨rfl, h.newOwn hm2 (Nat.le_refl _) hO (upd_in h.inside ho v), hO⟩

/-- Words at a place. -/
def Words (w : World) (b o n : Nat) (f : Nat → Int) : Prop := ∀ i, i < n → w.cell? ⟨b, o + i, none⟩ = some (.int .u64 (f i))

/-- What is written behind a row of k words from a on. -/
def rowOwn (own : Int → Option Int) (a : Int) (f : Nat → Int) (k : Nat) : Int → Option Int := fun j => if a ≤ j ∧ j < a + (k : Int) then some (f (j - a).toNat) else own j
theorem rowOwn_zero (own : Int → Option Int) (a : Int) (f : Nat → Int) : rowOwn own a f 0 = own := by
  funext j
  unfold rowOwn
  rw [if_neg (by omega)]
theorem rowOwn_succ (own : Int → Option Int) (a : Int) (f : Nat → Int) (k : Nat) : upd (rowOwn own a f k) (a + (k : Int)) (some (f k)) = rowOwn own a f (k + 1) := by
  funext j
  by_cases e : j = a + (k : Int)
  · subst e
    rw [upd_same]
    unfold rowOwn
    rw [if_pos (by omega)]
    congr 2
    omega
  · rw [upd_other _ _ e]
    unfold rowOwn
    by_cases h : a ≤ j ∧ j < a + (k : Int)
    · rw [if_pos h, if_pos (by omega)]
    · rw [if_neg h, if_neg (by omega)]

set_option maxHeartbeats 1000000 in
theorem vsetRow_any (V : VLay) (S : Vw) (N : Nat) (a : Int) (b o cap n : Nat) (f : Nat → Int) (w : World) (h : ViewIs w V S N) (hN : N < 1000000000) (hn : n ≤ 16) (ha0 : 8 ≤ a) (ha1 : a + (n : Int) ≤ 2824) (hop : ∀ j : Int, a ≤ j → j < a + (n : Int) → openI j)
    (hb : b ∉ V.all) (hbl : b < w.heap.size) (hf : ∀ i, i < n → (Lit.int .u64 (f i)).wf = true) (hw : Words w b o n f) :
    Calls Try.prog 64 #[.pointer (some ⟨V.vb, 0, none⟩), .int .i64 a, .slice (some ⟨b, o, none⟩) n cap] w fun e w' => e = .returned (.tuple #[]) ∧ ViewIs w' V { S with own := rowOwn S.own a f n } (N + n) ∧ Only [V.ob] w w' := by
  have HW : Hid (Words w b o n f) := hw
  have HO : Hid (∀ j : Int, a ≤ j → j < a + (n : Int) → openI j) := hop
  have HB : Hid (b ∉ V.all) := hb
  have HF : Hid (∀ i, i < n → (Lit.int .u64 (f i)).wf = true) := hf
  clear hw hop hb hf
  go_enter Try.func64, Try.ntmps64
  go_wp2
  go_loopw [6, 7, 10] (fun _ _ i wr => ∃ k : Nat, k ≤ n ∧ i = .int .i64 k ∧ Hid (ViewIs wr V { S with own := rowOwn S.own a f k } (N + k)) ∧ Hid (Only [V.ob] w wr)) (fun _ _ i _ => n - (intOf i).toNat)
  case atStart => exact ⟨0, Nat.zero_le _, rfl, by show ViewIs _ _ _ _; rw [rowOwn_zero]; exact h, Only.refl _ _⟩
  case round =>
    obtain ⟨k, hk, rfl, HV, HX⟩ := hrel
    by_cases hlt : k < n
    · have hb' : (k : Int) < (n : Int) := by omega
      have x1 : wr.cell? ⟨b, o + k, none⟩ = some (.int .u64 (f k)) := by
        rw [World.cell?_of_block (w := w) (HX.out.block b hbl (fun hm => HB.out (by simp only [List.mem_singleton] at hm; subst hm; simp [VLay.all, VLay.blocks])))]
        exact HW.out k hlt
      have c1 := HV.out.c1
      have hwk : (Lit.int .i64 (a + (k : Int))).wf = true := WalkArith.wf_i64 (by omega)
      have hwv := HF.out k hlt
      obtain ⟨X, hX⟩ : ∃ X, f k = X := ⟨_, rfl⟩
      rw [hX] at x1 hwv
      have KX : Hid (f k = X) := hX
      clear hX
      go_wp2_with (first
        | (at_mapUpdate; refine wpList_put _ rfl _ _ _ rfl V.ob (N + k) (rowOwn S.own a f k) (a + (k : Int)) X rfl HV.out.own (by unfold maxLen; omega) rfl rfl hwk hwv ?_; intro w2 hm2 ht2)
        | go_in)
      go_roundw
      case rel =>
        have hO : Only [V.ob] wr w2 := (Only.refl _ _).turned ht2 (by simp)
        rw [← KX.out, rowOwn_succ] at hm2
        refine ⟨k + 1, by omega, by go_num, ?_, HX.out.trans hO⟩
        have := HV.out.newOwn hm2 (Nat.le_refl _) hO (by
          rw [← rowOwn_succ]
          exact upd_in HV.out.inside (HO.out _ (by omega) (by omega)) _)
        exact this
      case measure => simp [intOf]; omega
    · obtain rfl : k = n := by omega
      go_wp2
      go_end0
      exact ⟨rfl, HV.out, HX.out⟩

/-- The first k of n words, and 0 behind. -/
def firstK (f : Nat → Int) (n k : Nat) : List Value := (List.range n).map fun (i : Nat) => Value.int .u64 (if i < k then f i else 0)
theorem firstK_zero (f : Nat → Int) (n : Nat) : firstK f n 0 = List.replicate n (Value.int .u64 0) := by
  apply List.ext_getElem (by simp [firstK])
  intro i h1 h2; simp [firstK]
theorem firstK_all (f : Nat → Int) (n : Nat) : firstK f n n = (List.range n).map fun (i : Nat) => Value.int .u64 (f i) := by
  apply List.ext_getElem (by simp [firstK])
  intro i h1 h2
  simp [firstK] at h1
  simp [firstK, h1]
theorem firstK_step (f : Nat → Int) (n k : Nat) : (firstK f n k).set k (.int .u64 (f k)) = firstK f n (k + 1) := by
  apply List.ext_getElem (by simp [firstK])
  intro i h1 h2
  rw [List.getElem_set]
  simp only [firstK, List.getElem_map, List.getElem_range]
  by_cases e : k = i
  · subst e; simp
  · have : (i < k + 1) ↔ (i < k) := by omega
    simp [e, this]

set_option maxHeartbeats 1000000 in
theorem vrow_any (V : VLay) (S : Vw) (N : Nat) (L : Lay) (M : Mem) (a : Int) (n : Nat) (w : World) (h : ViewIs w V S N) (hm : MemIs w L M) (hv : V.mb = L.mb) (hn : n ≤ 16) (ha0 : 0 ≤ a) (ha1 : a ≤ 2824) :
    Calls Try.prog 45 #[.pointer (some ⟨V.vb, 0, none⟩), .int .i64 a, .int .i64 n] w fun e w' => e = .returned (.slice (some ⟨w.heap.size, 0, none⟩) n n) ∧ w'.ownsRow w.heap.size 23 1 (.slice (some ⟨w.heap.size, 0, none⟩) n n) n ((List.range n).map fun (i : Nat) => Value.int .u64 (S.word M (a + (i : Int)))) ∧ Below w.heap.size w w' := by
  obtain ⟨i0, hi, hz0, hz1, hz2⟩ := info_parts Try.info22
  have hallV := h.all_lt
  have hallM := hm.all_lt
  rw [← firstK_all]
  obtain ⟨f, hf⟩ : ∃ f : Nat → Int, (fun (i : Nat) => S.word M (a + (i : Int))) = f := ⟨_, rfl⟩
  have HF : Hid ((fun (i : Nat) => S.word M (a + (i : Int))) = f) := hf
  rw [hf]
  clear hf
  go_enter Try.func45, Try.ntmps45
  go_wp2_with (first
    | (at_make; refine wpList_make_full _ rfl _ _ 30 rfl w.heap.size 23 i0 (.int .u64 0) 1 Try.underlying30 hi hz0 hz1 _ _ _ _ n rfl rfl rfl rfl (by rw [hz2]; omega) (by unfold maxLen; omega) (Nat.le_refl _) ?_; intro w0 hown0 hgrow0)
    | go_in)
  go_loopw [8, 13] (fun _ i wr => ∃ k : Nat, k ≤ n ∧ i = .int .i64 k ∧ wr.ownsRow w.heap.size 23 1 (.slice (some ⟨w.heap.size, 0, none⟩) n n) n (firstK f n k) ∧ Hid (Below w.heap.size w wr)) (fun _ i _ => n - (intOf i).toNat)
  case atStart => exact ⟨0, Nat.zero_le _, rfl, by rw [firstK_zero, ← toList_zeros]; exact hown0, (Below.refl _ _).grown hgrow0 (Nat.le_refl _) (fun k h => by cases h)⟩
  case round =>
    obtain ⟨k, hk, rfl, hown, hnx⟩ := hrel
    have HV : Hid (ViewIs wr V S N) := h.below hnx.out hallV
    have HM : Hid (MemIs wr L M) := hm.below hnx.out hallM
    by_cases hlt : k < n
    · have hcell : wr.cell? ⟨w.heap.size, k, none⟩ = some (.int .u64 0) := by rw [hown.cellAt _ (by omega)]; simp [firstK, hlt]
      have hfz : wr.frozen? ⟨w.heap.size, k, none⟩ = false := hown.frozenAt _
      have hwk : (Lit.int .i64 (a + (k : Int))).wf = true := WalkArith.wf_i64 (by omega)
      have e1 : S.word M (a + (k : Int)) = f k := congrFun HF.out k
      have HR : Hid (Calls Try.prog 57 #[.pointer (some ⟨V.vb, 0, none⟩), .int .i64 (a + (k : Int))] wr fun e w' => e = .returned (.int .u64 (f k)) ∧ w' = wr) := by
        have := vread_any V S N L M (a + (k : Int)) wr HV.out HM.out hv hwk
        rw [e1] at this
        exact this
      clear e1
      go_wp2_with (first
        | (go_at_call 57; refine Calls.mono (Hid.out HR) ?_; rintro e w' ⟨rfl, hw⟩; obtain rfl := hw.symm)
        | go_in)
      go_roundw
      case rel => exact ⟨k + 1, by omega, by go_num, by rw [← firstK_step]; exact (hown.stored k _).1, hnx.out.setCell (Nat.le_refl _) _⟩
      case measure => simp [intOf]; omega
    · obtain rfl : k = n := by omega
      go_wp2
      go_ret
      exact ⟨rfl, hown, hnx.out⟩

end Go.Proofs.Ytdjnkibnnjobpaa

namespace Go.Proofs.Ytdjnkibnnjobpaa.Cd

def getN (w a n : Nat) : Nat := w / 2 ^ a % 2 ^ n
def putN (w a n v : Nat) : Nat := (w &&& (2 ^ 64 - ((2 ^ n - 1) <<< a + 1))) ||| (v <<< a)

theorem mask_lt (a n : Nat) (h : a + n ≤ 64) : (2 ^ n - 1) <<< a < 2 ^ 64 := by
  rw [Nat.shiftLeft_eq]
  have h1 : 2 ^ n * 2 ^ a ≤ 2 ^ 64 := by rw [← Nat.pow_add]; exact Nat.pow_le_pow_right (by omega) (by omega)
  have h2 : 0 < 2 ^ a := Nat.two_pow_pos _
  have h3 : 0 < 2 ^ n := Nat.two_pow_pos _
  have h4 : (2 ^ n - 1) * 2 ^ a < 2 ^ n * 2 ^ a := Nat.mul_lt_mul_of_pos_right (by omega) h2
  omega

theorem getN_bit (w a n i : Nat) : (getN w a n).testBit i = (decide (i < n) && w.testBit (a + i)) := by
  unfold getN
  rw [Nat.testBit_mod_two_pow, Nat.testBit_div_two_pow]
  rw [Nat.add_comm]

theorem putN_bit (w a n v i : Nat) (hw : w < 2 ^ 64) (h : a + n ≤ 64) (hv : v < 2 ^ n) :
    (putN w a n v).testBit i = if a ≤ i ∧ i < a + n then v.testBit (i - a) else w.testBit i := by
  unfold putN
  rw [Nat.testBit_or, Nat.testBit_and, Nat.testBit_two_pow_sub_succ (mask_lt a n h), Nat.testBit_shiftLeft, Nat.testBit_shiftLeft, Nat.testBit_two_pow_sub_one]
  by_cases h1 : a ≤ i
  · by_cases h2 : i < a + n
    · have e : i - a < n := by omega
      simp [h1, h2, e]
    · have e : ¬ i - a < n := by omega
      have e2 : v.testBit (i - a) = false := Nat.testBit_lt_two_pow (Nat.lt_of_lt_of_le hv (Nat.pow_le_pow_right (by omega) (by omega)))
      by_cases h3 : i < 64
      · simp [h1, h2, e, e2, h3]
      · have e3 : w.testBit i = false := Nat.testBit_lt_two_pow (Nat.lt_of_lt_of_le hw (Nat.pow_le_pow_right (by omega) (by omega)))
        simp [h2, e, e2, h3, e3]
  · by_cases h3 : i < 64
    · simp [h1, h3]
    · exfalso; omega

theorem putN_lt (w a n v : Nat) (hw : w < 2 ^ 64) (h : a + n ≤ 64) (hv : v < 2 ^ n) : putN w a n v < 2 ^ 64 := by
  refine Nat.lt_pow_two_of_testBit _ fun i hi => ?_
  rw [putN_bit w a n v i hw h hv, if_neg (by omega)]
  exact Nat.testBit_lt_two_pow (Nat.lt_of_lt_of_le hw (Nat.pow_le_pow_right (by omega) hi))

theorem getN_lt (w a n : Nat) : getN w a n < 2 ^ n := Nat.mod_lt _ (Nat.two_pow_pos _)

theorem getN_le (w a n : Nat) : getN w a n ≤ w := Nat.le_trans (Nat.mod_le _ _) (Nat.div_le_self _ _)

theorem get_put (w a n v : Nat) (hw : w < 2 ^ 64) (h : a + n ≤ 64) (hv : v < 2 ^ n) : getN (putN w a n v) a n = v := by
  refine Nat.eq_of_testBit_eq fun i => ?_
  rw [getN_bit, putN_bit w a n v _ hw h hv]
  by_cases h1 : i < n
  · rw [if_pos (by omega)]; simp [h1]
  · have : v.testBit i = false := Nat.testBit_lt_two_pow (Nat.lt_of_lt_of_le hv (Nat.pow_le_pow_right (by omega) (by omega)))
    simp [h1, this]

theorem put_back (w a n v : Nat) (hw : w < 2 ^ 64) (h : a + n ≤ 64) (hv : v < 2 ^ n) : putN (putN w a n v) a n (getN w a n) = w := by
  refine Nat.eq_of_testBit_eq fun i => ?_
  rw [putN_bit _ a n _ _ (putN_lt w a n v hw h hv) h (getN_lt _ _ _), putN_bit w a n v _ hw h hv, getN_bit]
  by_cases h1 : a ≤ i ∧ i < a + n
  · have e : a + (i - a) = i := by omega
    have e2 : i - a < n := by omega
    rw [if_pos h1, e]; simp [e2]
  · simp [h1]

theorem get_apart (w a n v b m : Nat) (hw : w < 2 ^ 64) (h : a + n ≤ 64) (hv : v < 2 ^ n) (hap : b + m ≤ a ∨ a + n ≤ b) : getN (putN w a n v) b m = getN w b m := by
  refine Nat.eq_of_testBit_eq fun i => ?_
  rw [getN_bit, getN_bit, putN_bit w a n v _ hw h hv]
  by_cases h1 : i < m
  · rw [if_neg (by omega)]
  · simp [h1]

theorem whole (w k : Nat) (hw : w < 2 ^ 64) (hk : k ≤ 64) : putN (putN 0 0 k (getN w 0 k)) k (64 - k) (getN w k (64 - k)) = w := by
  have h0 : putN 0 0 k (getN w 0 k) < 2 ^ 64 := putN_lt 0 0 k _ (by omega) (by omega) (getN_lt _ _ _)
  refine Nat.eq_of_testBit_eq fun i => ?_
  rw [putN_bit _ k (64 - k) _ _ h0 (by omega) (getN_lt _ _ _), putN_bit 0 0 k _ _ (by omega) (by omega) (getN_lt _ _ _), getN_bit, getN_bit]
  by_cases h1 : k ≤ i
  · by_cases h2 : i < 64
    · rw [if_pos (by omega)]
      have e : k + (i - k) = i := by omega
      have e2 : i - k < 64 - k := by omega
      rw [e]; simp [e2]
    · have e3 : w.testBit i = false := Nat.testBit_lt_two_pow (Nat.lt_of_lt_of_le hw (Nat.pow_le_pow_right (by omega) (by omega)))
      rw [if_neg (by omega), if_neg (by omega), e3]; simp
  · rw [if_neg (by omega), if_pos (by omega)]
    have e2 : i < k := by omega
    simp [e2]

theorem get_all (w : Nat) (hw : w < 2 ^ 64) : getN w 0 64 = w := by
  unfold getN; rw [Nat.pow_zero, Nat.div_one]; exact Nat.mod_eq_of_lt hw

/-! ### As integers -/
def getI (w a n : Int) : Int := (getN w.toNat a.toNat n.toNat : Nat)
def putI (w a n v : Int) : Int := (putN w.toNat a.toNat n.toNat v.toNat : Nat)
def onesI (n : Int) : Int := (2 ^ n.toNat - 1 : Nat)
def pow64 : Int := 18446744073709551616

theorem getI_bd (w a n : Int) (h0 : 0 ≤ w) : 0 ≤ getI w a n ∧ getI w a n ≤ w := by
  have := getN_le w.toNat a.toNat n.toNat
  unfold getI; omega

theorem getI_ones (w a n : Int) : getI w a n ≤ onesI n := by
  have := getN_lt w.toNat a.toNat n.toNat
  unfold getI onesI; omega

theorem onesI_bd (n : Int) (h : n ≤ 64) : 0 ≤ onesI n ∧ onesI n ≤ 18446744073709551615 := by
  have h1 : 2 ^ n.toNat ≤ 2 ^ 64 := Nat.pow_le_pow_right (by omega) (by omega)
  unfold onesI; omega

theorem ones_form (n : Int) (h0 : 0 ≤ n) (h1 : n ≤ 64) : (18446744073709551615 : Int) / 2 ^ (64 - n).toNat = onesI n := by
  obtain ⟨N, rfl⟩ := Int.eq_ofNat_of_zero_le h0
  have e : (64 - (N : Int)).toNat = 64 - N := by omega
  have hN : N ≤ 64 := by omega
  rw [e]
  have hp : 0 < 2 ^ (64 - N) := Nat.two_pow_pos _
  have hm : 2 ^ N * 2 ^ (64 - N) = 2 ^ 64 := by rw [← Nat.pow_add]; congr 1; omega
  have : (2 ^ 64 - 1) / 2 ^ (64 - N) = 2 ^ N - 1 := by
    rw [Nat.div_eq_iff hp]
    have hq : 0 < 2 ^ N := Nat.two_pow_pos _
    obtain ⟨q, hq2⟩ : ∃ q, 2 ^ N = q + 1 := ⟨2 ^ N - 1, by omega⟩
    rw [hq2] at hm ⊢
    rw [Nat.add_mul] at hm
    simp only [Nat.add_sub_cancel]
    omega
  unfold onesI
  rw [Int.toNat_natCast, ← this]
  simp

theorem get_form (w a n : Int) (hw0 : 0 ≤ w) (hw : w ≤ 18446744073709551615) (ha : 0 ≤ a) (hn : 0 ≤ n) (h : a + n ≤ 64) :
    ((( w / 2 ^ a.toNat).toNat &&& (onesI n).toNat : Nat) : Int) = getI w a n := by
  obtain ⟨W, rfl⟩ := Int.eq_ofNat_of_zero_le hw0
  obtain ⟨A, rfl⟩ := Int.eq_ofNat_of_zero_le ha
  obtain ⟨N, rfl⟩ := Int.eq_ofNat_of_zero_le hn
  unfold onesI getI getN
  have e : ((W : Int) / 2 ^ (A : Int).toNat).toNat = W / 2 ^ A := by
    rw [Int.toNat_natCast]
    have : ((W : Int) / 2 ^ A) = ((W / 2 ^ A : Nat) : Int) := by simp
    rw [this, Int.toNat_natCast]
  rw [e]
  simp only [Int.toNat_natCast]
  rw [Nat.and_two_pow_sub_one_eq_mod]

theorem get_bits (w a n : Int) (hw0 : 0 ≤ w) (hw : w ≤ 18446744073709551615) (ha : 0 ≤ a) (hn : 0 ≤ n) (h : a + n ≤ 64) :
    bits .and .u64 (w / 2 ^ a.toNat) (onesI n) = getI w a n := by
  have hb := onesI_bd n (by omega)
  have hd0 : 0 ≤ w / 2 ^ a.toNat := Int.ediv_nonneg hw0 (Int.le_of_lt (Int.pow_pos (by decide)))
  have hd1 : w / 2 ^ a.toNat ≤ w := Int.ediv_le_self _ hw0
  rw [u64_and _ _ hd0 (by omega) hb.1 (by omega), get_form w a n hw0 hw ha hn h]

theorem shl_fits (x a n : Nat) (hx : x < 2 ^ n) (h : a + n ≤ 64) : x * 2 ^ a < 2 ^ 64 := by
  have h1 : 2 ^ n * 2 ^ a ≤ 2 ^ 64 := by rw [← Nat.pow_add]; exact Nat.pow_le_pow_right (by omega) (by omega)
  have h4 : x * 2 ^ a < 2 ^ n * 2 ^ a := Nat.mul_lt_mul_of_pos_right hx (Nat.two_pow_pos _)
  omega

theorem wrap_shl (X A N : Nat) (hx : X < 2 ^ N) (h : A + N ≤ 64) : IntKind.u64.wrap ((X : Int) * 2 ^ A) = ((X <<< A : Nat) : Int) := by
  have h1 := shl_fits X A N hx h
  have e : ((X : Int) * 2 ^ A) = ((X * 2 ^ A : Nat) : Int) := by simp
  rw [IntKind.wrap_u64, e, Nat.shiftLeft_eq]
  omega

theorem put_bits (w a n v : Int) (hw0 : 0 ≤ w) (hw : w ≤ 18446744073709551615) (ha : 0 ≤ a) (hn : 0 ≤ n) (h : a + n ≤ 64) (hv0 : 0 ≤ v) (hv : v ≤ onesI n) :
    bits .or .u64 (bits .andNot .u64 w (IntKind.u64.wrap (onesI n * 2 ^ a.toNat))) (IntKind.u64.wrap (v * 2 ^ a.toNat)) = putI w a n v := by
  obtain ⟨W, rfl⟩ := Int.eq_ofNat_of_zero_le hw0
  obtain ⟨A, rfl⟩ := Int.eq_ofNat_of_zero_le ha
  obtain ⟨N, rfl⟩ := Int.eq_ofNat_of_zero_le hn
  obtain ⟨V, rfl⟩ := Int.eq_ofNat_of_zero_le hv0
  have hp : 0 < 2 ^ N := Nat.two_pow_pos _
  have hV : V < 2 ^ N := by unfold onesI at hv; rw [Int.toNat_natCast] at hv; omega
  have hAN : A + N ≤ 64 := by omega
  have hm := mask_lt A N hAN
  unfold onesI putI
  simp only [Int.toNat_natCast]
  rw [wrap_shl (2 ^ N - 1) A N (by omega) hAN, wrap_shl V A N hV hAN]
  have hs : V <<< A < 2 ^ 64 := by rw [Nat.shiftLeft_eq]; exact shl_fits V A N hV hAN
  rw [u64_andNot_nat _ _ (by omega) (by omega)]
  rw [u64_or_nat _ _ (Nat.lt_of_le_of_lt Nat.and_le_left (by omega)) (by omega)]
  unfold putN
  have e : 18446744073709551615 - (2 ^ N - 1) <<< A = 2 ^ 64 - ((2 ^ N - 1) <<< A + 1) := by omega
  rw [e]

theorem putI_bd (w a n v : Int) (hw0 : 0 ≤ w) (hw : w ≤ 18446744073709551615) (ha : 0 ≤ a) (hn : 0 ≤ n) (h : a + n ≤ 64) (_hv0 : 0 ≤ v) (hv : v ≤ onesI n) :
    0 ≤ putI w a n v ∧ putI w a n v ≤ 18446744073709551615 := by
  have hp : 0 < 2 ^ n.toNat := Nat.two_pow_pos _
  have := putN_lt w.toNat a.toNat n.toNat v.toNat (by omega) (by omega) (by unfold onesI at hv; omega)
  unfold putI; omega

/-- Into a word all of whose bits lie below the field: a sum. -/
theorem putN_low (w a n v : Nat) (hw : w < 2 ^ a) (h : a + n ≤ 64) (hv : v < 2 ^ n) : putN w a n v = v * 2 ^ a + w := by
  have hw64 : w < 2 ^ 64 := Nat.lt_of_lt_of_le hw (Nat.pow_le_pow_right (by omega) (by omega))
  rw [← Nat.shiftLeft_eq, Nat.shiftLeft_add_eq_or_of_lt hw]
  refine Nat.eq_of_testBit_eq fun i => ?_
  rw [putN_bit w a n v i hw64 h hv, Nat.testBit_or, Nat.testBit_shiftLeft]
  by_cases h1 : a ≤ i
  · have e : w.testBit i = false := Nat.testBit_lt_two_pow (Nat.lt_of_lt_of_le hw (Nat.pow_le_pow_right (by omega) h1))
    by_cases h2 : i < a + n
    · simp [h1, h2, e]
    · have e2 : v.testBit (i - a) = false := Nat.testBit_lt_two_pow (Nat.lt_of_lt_of_le hv (Nat.pow_le_pow_right (by omega) (by omega)))
      simp [h2, e, e2]
  · simp [h1]
theorem putI_low (w v : Int) (a n : Nat) (hw0 : 0 ≤ w) (hw : w < (2 ^ a : Nat)) (h : a + n ≤ 64) (hv0 : 0 ≤ v) (hv : v < (2 ^ n : Nat)) : putI w a n v = v * (2 ^ a : Nat) + w := by
  unfold putI
  rw [Int.toNat_natCast, Int.toNat_natCast, putN_low w.toNat a n v.toNat (by omega) h (by omega)]
  rw [Int.natCast_add, Int.natCast_mul, Int.toNat_of_nonneg hw0, Int.toNat_of_nonneg hv0]
theorem getI_div (w : Int) (a n : Nat) (hw0 : 0 ≤ w) : getI w a n = w / (2 ^ a : Nat) % (2 ^ n : Nat) := by
  unfold getI getN
  rw [Int.toNat_natCast, Int.toNat_natCast]
  obtain ⟨W, rfl⟩ := Int.eq_ofNat_of_zero_le hw0
  rw [Int.toNat_natCast, Int.natCast_emod, Int.natCast_ediv]

end Go.Proofs.Ytdjnkibnnjobpaa.Cd

namespace Go.Proofs.Ytdjnkibnnjobpaa.Cd
open Go.RowKit

theorem ret_bool {a b : Bool} (h : a = b) : Ending.returned (.bool a) = .returned (.bool b) := by rw [h]
theorem ret_int {k : IntKind} {a b : Int} (h : a = b) : Ending.returned (.int k a) = .returned (.int k b) := by rw [h]
theorem ret_pair {k l : IntKind} {a b : Int} {c : Int} (h : a = b) : Ending.returned (.tuple #[.int k a, .int l c]) = .returned (.tuple #[.int k b, .int l c]) := by rw [h]

/-- The block g holds a card. -/
def Ten (w : World) (g : Nat) (k l s v d0 d1 d2 d3 d4 m : Int) : Prop := w.cell? ⟨g, 0, none⟩ = some (.int .i64 k) ∧ w.cell? ⟨g, 1, none⟩ = some (.int .i64 l) ∧ w.cell? ⟨g, 2, none⟩ = some (.int .i64 s) ∧ w.cell? ⟨g, 3, none⟩ = some (.int .u64 v) ∧ w.cell? ⟨g, 4, none⟩ = some (.int .i64 d0) ∧ w.cell? ⟨g, 5, none⟩ = some (.int .i64 d1) ∧ w.cell? ⟨g, 6, none⟩ = some (.int .i64 d2) ∧ w.cell? ⟨g, 7, none⟩ = some (.int .i64 d3) ∧ w.cell? ⟨g, 8, none⟩ = some (.int .i64 d4) ∧ w.cell? ⟨g, 9, none⟩ = some (.int .i64 m)
theorem Ten.later {w w' : World} {g : Nat} {k l s v d0 d1 d2 d3 d4 m : Int} (h : Ten w g k l s v d0 d1 d2 d3 d4 m) {B : Nat} (hg : g < B) (hb : Below B w w') : Ten w' g k l s v d0 d1 d2 d3 d4 m := by
  unfold Ten at h ⊢
  have e : ∀ o, w'.cell? ⟨g, o, none⟩ = w.cell? ⟨g, o, none⟩ := fun o => hb.cell (p := ⟨g, o, none⟩) hg
  simp only [e]
  exact h
theorem ten_alloc (w : World) (k l s v d0 d1 d2 d3 d4 m : Int) : Ten (w.alloc (.cells #[.int .i64 k, .int .i64 l, .int .i64 s, .int .u64 v, .int .i64 d0, .int .i64 d1, .int .i64 d2, .int .i64 d3, .int .i64 d4, .int .i64 m] 26)) w.heap.size k l s v d0 d1 d2 d3 d4 m := by
  unfold Ten
  simp [go_sem]
/-- A world with a card in its newest block: the card stays there, and what was below stays. -/
theorem new_card (w : World) (k l s v d0 d1 d2 d3 d4 m : Int) : ∃ W : World, w.alloc (.cells #[.int .i64 k, .int .i64 l, .int .i64 s, .int .u64 v, .int .i64 d0, .int .i64 d1, .int .i64 d2, .int .i64 d3, .int .i64 d4, .int .i64 m] 26) = W ∧ Hid (W.heap.size = w.heap.size + 1) ∧ Hid (∀ v', Below W.heap.size W v' → Below w.heap.size w v') ∧ Hid (∀ v', Below W.heap.size W v' → v'.cell? ⟨w.heap.size, 0, none⟩ = some (.int .i64 k) ∧ v'.cell? ⟨w.heap.size, 1, none⟩ = some (.int .i64 l) ∧ v'.cell? ⟨w.heap.size, 2, none⟩ = some (.int .i64 s) ∧ v'.cell? ⟨w.heap.size, 3, none⟩ = some (.int .u64 v) ∧ v'.cell? ⟨w.heap.size, 4, none⟩ = some (.int .i64 d0) ∧ v'.cell? ⟨w.heap.size, 5, none⟩ = some (.int .i64 d1) ∧ v'.cell? ⟨w.heap.size, 6, none⟩ = some (.int .i64 d2) ∧ v'.cell? ⟨w.heap.size, 7, none⟩ = some (.int .i64 d3) ∧ v'.cell? ⟨w.heap.size, 8, none⟩ = some (.int .i64 d4) ∧ v'.cell? ⟨w.heap.size, 9, none⟩ = some (.int .i64 m)) := by
  refine ⟨_, rfl, ?_, fun v' h => ?_, fun v' h => (ten_alloc w k l s v d0 d1 d2 d3 d4 m).later (by simp) h⟩
  · show _ = _
    simp
  · exact ((Below.refl _ _).alloc (Nat.le_refl _) _).trans (h.mono (by simp))

theorem info3 : (Try.prog.info? 3).map (·.size) = some 1 := by kernel_rfl
theorem info22 : (Try.prog.info? 23).map (·.size) = some 1 := by kernel_rfl
theorem some_info {t : TypeId} (h : (Try.prog.info? t).map (·.size) = some 1) : ∃ i, Try.prog.info? t = some i ∧ Try.prog.cellsOf t = 1 := by
  cases hq : Try.prog.info? t with
  | none => simp [hq] at h
  | some i =>
    refine ⟨i, rfl, ?_⟩
    simp [hq] at h
    simp [Program.cellsOf, hq, h]

theorem fields25 : Try.prog.fieldsOf 26 = #[{ name := "Kind", type := 3, offset := 0, embedded := false, tag := "", pkgPath := "", byteOffset := 0 },
        { name := "Links", type := 3, offset := 1, embedded := false, tag := "", pkgPath := "", byteOffset := 8 },
        { name := "Size", type := 3, offset := 2, embedded := false, tag := "", pkgPath := "", byteOffset := 16 },
        { name := "Version", type := 23, offset := 3, embedded := false, tag := "", pkgPath := "", byteOffset := 24 },
        { name := "Direct", type := 24, offset := 4, embedded := false, tag := "", pkgPath := "", byteOffset := 32 },
        { name := "More", type := 3, offset := 9, embedded := false, tag := "", pkgPath := "", byteOffset := 72 }] := by kernel_rfl

theorem eq_five (d0 d1 d2 d3 d4 e0 e1 e2 e3 e4 : Int) (w : World) :
    (Op.equalIn 9999 24 (.agg #[.int .i64 d0, .int .i64 d1, .int .i64 d2, .int .i64 d3, .int .i64 d4]) (.agg #[.int .i64 e0, .int .i64 e1, .int .i64 e2, .int .i64 e3, .int .i64 e4])).run Try.prog w = .ok (decide (d0 = e0 ∧ d1 = e1 ∧ d2 = e2 ∧ d3 = e3 ∧ d4 = e4)) w := by
  obtain ⟨i3, h3, c3⟩ := some_info info3
  rw [run_equalIn_array w 9998 _ _ Try.underlying24 h3, c3]
  simp [Op.eqItems, List.range_succ, go_sem]
  by_cases q0 : d0 = e0
  · by_cases q1 : d1 = e1
    · by_cases q2 : d2 = e2
      · by_cases q3 : d3 = e3
        · by_cases q4 : d4 = e4
          · simp [q0, q1, q2, q3, q4]
          · simp [q0, q1, q2, q3, q4]
        · simp [q0, q1, q2, q3]
      · simp [q0, q1, q2]
    · simp [q0, q1]
  · simp [q0]
theorem eq_card (k l s v d0 d1 d2 d3 d4 m k' l' s' v' e0 e1 e2 e3 e4 m' : Int) (w : World) :
    (Op.equalIn 10000 26 (.agg #[.int .i64 k, .int .i64 l, .int .i64 s, .int .u64 v, .int .i64 d0, .int .i64 d1, .int .i64 d2, .int .i64 d3, .int .i64 d4, .int .i64 m]) (.agg #[.int .i64 k', .int .i64 l', .int .i64 s', .int .u64 v', .int .i64 e0, .int .i64 e1, .int .i64 e2, .int .i64 e3, .int .i64 e4, .int .i64 m'])).run Try.prog w
      = .ok (decide (k = k' ∧ l = l' ∧ s = s' ∧ v = v' ∧ (d0 = e0 ∧ d1 = e1 ∧ d2 = e2 ∧ d3 = e3 ∧ d4 = e4) ∧ m = m')) w := by
  have hp : Try.prog.stoodInHeld 26 = false := by kernel_rfl
  have h5 := eq_five d0 d1 d2 d3 d4 e0 e1 e2 e3 e4 w
  obtain ⟨b, hb⟩ : ∃ b, decide (d0 = e0 ∧ d1 = e1 ∧ d2 = e2 ∧ d3 = e3 ∧ d4 = e4) = b := ⟨_, rfl⟩
  rw [hb] at h5
  have hq : (d0 = e0 ∧ d1 = e1 ∧ d2 = e2 ∧ d3 = e3 ∧ d4 = e4) ↔ b = true := by rw [← hb, decide_eq_true_eq]
  have hD : decide (k = k' ∧ l = l' ∧ s = s' ∧ v = v' ∧ (d0 = e0 ∧ d1 = e1 ∧ d2 = e2 ∧ d3 = e3 ∧ d4 = e4) ∧ m = m') = decide (k = k' ∧ l = l' ∧ s = s' ∧ v = v' ∧ b = true ∧ m = m') := decide_eq_decide.2 (by rw [hq])
  rw [hD]
  clear hD hb hq
  rw [run_equalIn_struct w 9999 26 _ _ (by rw [fields25]; exact Try.underlying26) hp, fields25]
  simp [Op.eqFields, go_sem, h5]
  by_cases q0 : k = k'
  · by_cases q1 : l = l'
    · by_cases q2 : s = s'
      · by_cases q3 : v = v'
        · cases b
          · simp [q0, q1, q2, q3]
          · by_cases q5 : m = m'
            · simp [q0, q1, q2, q3, q5]
            · simp [q0, q1, q2, q3, q5]
        · simp [q0, q1, q2, q3]
      · simp [q0, q1, q2]
    · simp [q0, q1]
  · simp [q0]
/-- Each is a block or none. -/
def Bk (d0 d1 d2 d3 d4 m : Int) : Prop := (-1 ≤ d0 ∧ d0 ≤ 95) ∧ (-1 ≤ d1 ∧ d1 ≤ 95) ∧ (-1 ≤ d2 ∧ d2 ≤ 95) ∧ (-1 ≤ d3 ∧ d3 ≤ 95) ∧ (-1 ≤ d4 ∧ d4 ≤ 95) ∧ (-1 ≤ m ∧ m ≤ 95)
end Go.Proofs.Ytdjnkibnnjobpaa.Cd

namespace Go.Proofs.Ytdjnkibnnjobpaa.Cd
open Go.RowKit

end Go.Proofs.Ytdjnkibnnjobpaa.Cd

namespace Go.Proofs.Ytdjnkibnnjobpaa.Cd
open Go.RowKit

/-- The card of no file. -/
def No (k l s d0 d1 d2 d3 d4 m : Int) : Prop := k = 0 ∧ l = 0 ∧ s = 0 ∧ (d0 = -1 ∧ d1 = -1 ∧ d2 = -1 ∧ d3 = -1 ∧ d4 = -1) ∧ m = -1
/-- A file's card. -/
def Fl (k l s d0 d1 d2 d3 d4 m : Int) : Prop := (k = 1 ∨ k = 2 ∨ k = 3) ∧ (0 ≤ l ∧ l ≤ 255) ∧ (0 ≤ s ∧ s ≤ 2688) ∧ Bk d0 d1 d2 d3 d4 m
/-- A card that may be. -/
def Rt (k l s d0 d1 d2 d3 d4 m : Int) : Prop := No k l s d0 d1 d2 d3 d4 m ∨ Fl k l s d0 d1 d2 d3 d4 m

theorem below_box {w w1 : World} {o : Obj} (hb : Below (w.alloc o).heap.size (w.alloc o) w1) : Below w.heap.size w w1 :=
  ((Below.refl _ _).alloc (Nat.le_refl _) _).trans (hb.mono (by simp))
theorem below_box0 (w : World) (o : Obj) : Below w.heap.size w (w.alloc o) := (Below.refl _ _).alloc (Nat.le_refl _) _
theorem below_next {B : Nat} {w w1 w2 : World} (h : Below B w w1) (h2 : Below w1.heap.size w1 w2) (hB : B ≤ w.heap.size) : Below B w w2 := h.trans (h2.mono (Nat.le_trans hB h.size))

theorem no_eq (k l s v d0 d1 d2 d3 d4 m : Int) (b : Bool) (hb : No k l s d0 d1 d2 d3 d4 m ↔ b = true) (w : World) :
    (Op.equalIn 10000 26 (.agg #[.int .i64 k, .int .i64 l, .int .i64 s, .int .u64 v, .int .i64 d0, .int .i64 d1, .int .i64 d2, .int .i64 d3, .int .i64 d4, .int .i64 m]) (.agg #[.int .i64 0, .int .i64 0, .int .i64 0, .int .u64 v, .int .i64 (-1), .int .i64 (-1), .int .i64 (-1), .int .i64 (-1), .int .i64 (-1), .int .i64 (-1)])).run Try.prog w = .ok b w := by
  rw [eq_card]
  congr 1
  rw [Bool.eq_iff_iff, decide_eq_true_eq, ← hb]
  unfold No
  simp

end Go.Proofs.Ytdjnkibnnjobpaa.Cd

namespace Go.Proofs.Ytdjnkibnnjobpaa.Cd
open Go.RowKit

/-- All parts fit their fields. -/
def Fit (k l s d0 d1 d2 d3 d4 m : Int) : Prop := (0 ≤ k ∧ k ≤ 255) ∧ (0 ≤ l ∧ l ≤ 255) ∧ (0 ≤ s ∧ s ≤ 2688) ∧ Bk d0 d1 d2 d3 d4 m
theorem Rt.fit {k l s d0 d1 d2 d3 d4 m : Int} (h : Rt k l s d0 d1 d2 d3 d4 m) : Fit k l s d0 d1 d2 d3 d4 m := by
  unfold Rt No Fl at h
  unfold Fit
  rcases h with ⟨h0, h1, h2, ⟨h3, h4, h5, h6, h7⟩, h8⟩ | ⟨h0, h1, h2, h3⟩
  · subst h0 h1 h2 h3 h4 h5 h6 h7 h8
    unfold Bk
    omega
  · exact ⟨by omega, h1, h2, h3⟩

/-- A card's first, third and fourth word. -/
def wd0 (k l s : Int) : Int := s * 16777216 + (l * 256 + k)
def wd2 (d0 d1 d2 d3 : Int) : Int := (d3 + 1) * 281474976710656 + ((d2 + 1) * 4294967296 + ((d1 + 1) * 65536 + (d0 + 1)))
def wd3 (d4 m : Int) : Int := (m + 1) * 65536 + (d4 + 1)
theorem wd_bd {k l s d0 d1 d2 d3 d4 m : Int} (h : Rt k l s d0 d1 d2 d3 d4 m) : (0 ≤ wd0 k l s ∧ wd0 k l s ≤ 18446744073709551615) ∧ (0 ≤ wd2 d0 d1 d2 d3 ∧ wd2 d0 d1 d2 d3 ≤ 18446744073709551615) ∧ (0 ≤ wd3 d4 m ∧ wd3 d4 m ≤ 18446744073709551615) := by
  have := h.fit
  unfold Fit Bk at this
  unfold wd0 wd2 wd3
  omega
end Go.Proofs.Ytdjnkibnnjobpaa.Cd

namespace Go.Proofs.Ytdjnkibnnjobpaa.Cd
open Go.RowKit

/-- What the fields of the first, third and fourth word say. -/
def Says (a0 a2 a3 k l s d0 d1 d2 d3 d4 m : Int) : Prop :=
  k = a0 % 256 ∧ l = a0 / 256 % 65536 ∧ s = a0 / 16777216 % 4294967296 ∧ d0 = a2 % 65536 - 1 ∧ d1 = a2 / 65536 % 65536 - 1 ∧ d2 = a2 / 4294967296 % 65536 - 1 ∧ d3 = a2 / 281474976710656 % 65536 - 1 ∧ d4 = a3 % 65536 - 1 ∧ m = a3 / 65536 % 65536 - 1
end Go.Proofs.Ytdjnkibnnjobpaa.Cd

namespace Go.Proofs.Ytdjnkibnnjobpaa.Cd
open Go.RowKit

/-- The block g holds eight words. -/
def Row8 (w : World) (g : Nat) (a0 a1 a2 a3 a4 a5 a6 a7 : Int) : Prop := w.cell? ⟨g, 0, none⟩ = some (.int .u64 a0) ∧ w.cell? ⟨g, 1, none⟩ = some (.int .u64 a1) ∧ w.cell? ⟨g, 2, none⟩ = some (.int .u64 a2) ∧ w.cell? ⟨g, 3, none⟩ = some (.int .u64 a3) ∧ w.cell? ⟨g, 4, none⟩ = some (.int .u64 a4) ∧ w.cell? ⟨g, 5, none⟩ = some (.int .u64 a5) ∧ w.cell? ⟨g, 6, none⟩ = some (.int .u64 a6) ∧ w.cell? ⟨g, 7, none⟩ = some (.int .u64 a7)
theorem Row8.later {w w' : World} {g : Nat} {a0 a1 a2 a3 a4 a5 a6 a7 : Int} (h : Row8 w g a0 a1 a2 a3 a4 a5 a6 a7) {B : Nat} (hg : g < B) (hb : Below B w w') : Row8 w' g a0 a1 a2 a3 a4 a5 a6 a7 := by
  unfold Row8 at h ⊢
  have e : ∀ o, w'.cell? ⟨g, o, none⟩ = w.cell? ⟨g, o, none⟩ := fun o => hb.cell (p := ⟨g, o, none⟩) hg
  simp only [e]
  exact h
/-- A slice of the eight words of a card, made anew. -/
def Wrote (w w' : World) (e : Ending) (k l s v d0 d1 d2 d3 d4 m : Int) : Prop :=
  ∃ g, e = .returned (.tuple #[.slice (some ⟨g, 0, none⟩) 8 8, .int .i64 0]) ∧ w.heap.size ≤ g ∧ g < w'.heap.size ∧ Row8 w' g (wd0 k l s) v (wd2 d0 d1 d2 d3) (wd3 d4 m) 0 0 0 0 ∧ Below w.heap.size w w'

end Go.Proofs.Ytdjnkibnnjobpaa.Cd

namespace Go.Proofs.Ytdjnkibnnjobpaa.Cd
open Go.RowKit

/-- Eight words lie from the place o of the block b on. -/
def Src (w : World) (b o : Nat) (a0 a1 a2 a3 a4 a5 a6 a7 : Int) : Prop := b < w.heap.size ∧ w.cell? ⟨b, o, none⟩ = some (.int .u64 a0) ∧ w.cell? ⟨b, o + 1, none⟩ = some (.int .u64 a1) ∧ w.cell? ⟨b, o + 2, none⟩ = some (.int .u64 a2) ∧ w.cell? ⟨b, o + 3, none⟩ = some (.int .u64 a3) ∧ w.cell? ⟨b, o + 4, none⟩ = some (.int .u64 a4) ∧ w.cell? ⟨b, o + 5, none⟩ = some (.int .u64 a5) ∧ w.cell? ⟨b, o + 6, none⟩ = some (.int .u64 a6) ∧ w.cell? ⟨b, o + 7, none⟩ = some (.int .u64 a7)
theorem Src.later {w w' : World} {b o : Nat} {a0 a1 a2 a3 a4 a5 a6 a7 : Int} (h : Src w b o a0 a1 a2 a3 a4 a5 a6 a7) {B : Nat} (hB : w.heap.size ≤ B) (hb : Below B w w') : Src w' b o a0 a1 a2 a3 a4 a5 a6 a7 := by
  unfold Src at h ⊢
  have e : ∀ o, w'.cell? ⟨b, o, none⟩ = w.cell? ⟨b, o, none⟩ := fun o => hb.cell (p := ⟨b, o, none⟩) (show b < B by omega)
  simp only [e]
  exact ⟨by have := hb.size; omega, h.2⟩

/-- The result's block, as it was made. -/
def Zero (w : World) (g : Nat) : Prop := w.heap[g]? = some (.cells #[.int .i64 0, .int .i64 0, .int .i64 0, .int .u64 0, .int .i64 0, .int .i64 0, .int .i64 0, .int .i64 0, .int .i64 0, .int .i64 0] 26 (0, 0))
theorem Zero.later {w w' : World} {g : Nat} (h : Zero w g) {B : Nat} (hg : g < B) (hb : Below B w w') : Zero w' g := by
  unfold Zero at h ⊢
  rw [hb.block g hg]
  exact h
theorem Zero.frozen {w : World} {g : Nat} (h : Zero w g) (i : Nat) : w.frozen? ⟨g, i, none⟩ = false := frozen_of_row w g i _ _ h
theorem Zero.ten {w : World} {g : Nat} (h : Zero w g) : Ten w g 0 0 0 0 0 0 0 0 0 0 := by
  unfold Ten
  unfold Zero at h
  simp [cell_of_row w g _ _ _ _ h]

end Go.Proofs.Ytdjnkibnnjobpaa.Cd

namespace Go.Proofs.Ytdjnkibnnjobpaa
open Go.RowKit Go.Maps Go.ChangeMaps

theorem card_first (k : Int) (w : World) (h0 : 0 ≤ k) (h1 : k < 24) :
    Calls Try.prog 59 #[.int .i64 8, .int .i64 8, .int .i64 24, .int .i64 k] w fun e w' => e = .returned (.tuple #[.int .i64 (8 + 8 * k), .int .i64 0]) ∧ w' = w := by
  go_enter Try.func59, Try.ntmps59
  go_wp2
  go_ret2
  exact ⟨rfl, rfl⟩
theorem card_at (k : Int) (w : World) (h0 : 0 ≤ k) (h1 : k < 24) :
    Calls Try.prog 47 #[.int .i64 k] w fun e w' => e = .returned (.tuple #[.int .i64 (8 + 8 * k), .int .i64 0]) ∧ w' = w := by
  go_enter Try.func47, Try.ntmps47
  go_wp2_with (go_at_call 59; refine (card_first k _ h0 h1).mono ?_; rintro e w' ⟨rfl, rfl⟩)
  go_ret2
  exact ⟨rfl, rfl⟩
theorem card_nofirst (k : Int) (w : World) (h : k < 0 ∨ 24 ≤ k) :
    Calls Try.prog 59 #[.int .i64 8, .int .i64 8, .int .i64 24, .int .i64 k] w fun e w' => e = .returned (.tuple #[.int .i64 0, .int .i64 1]) ∧ w' = w := by
  rcases h with h | h
  · go_enter Try.func59, Try.ntmps59
    go_wp2
    go_ret2
    exact ⟨rfl, rfl⟩
  · have h' : ¬ k < 0 := by omega
    go_enter Try.func59, Try.ntmps59
    go_wp2
    go_ret2
    exact ⟨rfl, rfl⟩
theorem card_no (k : Int) (w : World) (h : k < 0 ∨ 24 ≤ k) :
    Calls Try.prog 47 #[.int .i64 k] w fun e w' => e = .returned (.tuple #[.int .i64 0, .int .i64 1]) ∧ w' = w := by
  have H : Hid (k < 0 ∨ 24 ≤ k) := h
  clear h
  go_enter Try.func47, Try.ntmps47
  go_wp2_with (go_at_call 59; refine (card_nofirst k _ H.out).mono ?_; rintro e w' ⟨rfl, rfl⟩)
  go_ret2
  exact ⟨rfl, rfl⟩

theorem owner_first (k : Int) (w : World) (h0 : 0 ≤ k) (h1 : k < 96) :
    Calls Try.prog 59 #[.int .i64 200, .int .i64 1, .int .i64 96, .int .i64 k] w fun e w' => e = .returned (.tuple #[.int .i64 (200 + k), .int .i64 0]) ∧ w' = w := by
  go_enter Try.func59, Try.ntmps59
  go_wp2
  go_ret2
  exact ⟨rfl, rfl⟩
theorem owner_at (k : Int) (w : World) (h0 : 0 ≤ k) (h1 : k < 96) :
    Calls Try.prog 55 #[.int .i64 k] w fun e w' => e = .returned (.tuple #[.int .i64 (200 + k), .int .i64 0]) ∧ w' = w := by
  go_enter Try.func55, Try.ntmps55
  go_wp2_with (go_at_call 59; refine (owner_first k _ h0 h1).mono ?_; rintro e w' ⟨rfl, rfl⟩)
  go_ret2
  exact ⟨rfl, rfl⟩
theorem owner_nofirst (k : Int) (w : World) (h : k < 0 ∨ 96 ≤ k) :
    Calls Try.prog 59 #[.int .i64 200, .int .i64 1, .int .i64 96, .int .i64 k] w fun e w' => e = .returned (.tuple #[.int .i64 0, .int .i64 1]) ∧ w' = w := by
  rcases h with h | h
  · go_enter Try.func59, Try.ntmps59
    go_wp2
    go_ret2
    exact ⟨rfl, rfl⟩
  · have h' : ¬ k < 0 := by omega
    go_enter Try.func59, Try.ntmps59
    go_wp2
    go_ret2
    exact ⟨rfl, rfl⟩
theorem owner_no (k : Int) (w : World) (h : k < 0 ∨ 96 ≤ k) :
    Calls Try.prog 55 #[.int .i64 k] w fun e w' => e = .returned (.tuple #[.int .i64 0, .int .i64 1]) ∧ w' = w := by
  have H : Hid (k < 0 ∨ 96 ≤ k) := h
  clear h
  go_enter Try.func55, Try.ntmps55
  go_wp2_with (go_at_call 59; refine (owner_nofirst k _ H.out).mono ?_; rintro e w' ⟨rfl, rfl⟩)
  go_ret2
  exact ⟨rfl, rfl⟩

theorem block_first (k : Int) (w : World) (h0 : 0 ≤ k) (h1 : k < 96) :
    Calls Try.prog 59 #[.int .i64 1288, .int .i64 16, .int .i64 96, .int .i64 k] w fun e w' => e = .returned (.tuple #[.int .i64 (1288 + 16 * k), .int .i64 0]) ∧ w' = w := by
  go_enter Try.func59, Try.ntmps59
  go_wp2
  go_ret2
  exact ⟨rfl, rfl⟩
theorem block_at (k : Int) (w : World) (h0 : 0 ≤ k) (h1 : k < 96) :
    Calls Try.prog 43 #[.int .i64 k] w fun e w' => e = .returned (.tuple #[.int .i64 (1288 + 16 * k), .int .i64 0]) ∧ w' = w := by
  go_enter Try.func43, Try.ntmps43
  go_wp2_with (go_at_call 59; refine (block_first k _ h0 h1).mono ?_; rintro e w' ⟨rfl, rfl⟩)
  go_ret2
  exact ⟨rfl, rfl⟩
theorem block_nofirst (k : Int) (w : World) (h : k < 0 ∨ 96 ≤ k) :
    Calls Try.prog 59 #[.int .i64 1288, .int .i64 16, .int .i64 96, .int .i64 k] w fun e w' => e = .returned (.tuple #[.int .i64 0, .int .i64 1]) ∧ w' = w := by
  rcases h with h | h
  · go_enter Try.func59, Try.ntmps59
    go_wp2
    go_ret2
    exact ⟨rfl, rfl⟩
  · have h' : ¬ k < 0 := by omega
    go_enter Try.func59, Try.ntmps59
    go_wp2
    go_ret2
    exact ⟨rfl, rfl⟩
theorem block_no (k : Int) (w : World) (h : k < 0 ∨ 96 ≤ k) :
    Calls Try.prog 43 #[.int .i64 k] w fun e w' => e = .returned (.tuple #[.int .i64 0, .int .i64 1]) ∧ w' = w := by
  have H : Hid (k < 0 ∨ 96 ≤ k) := h
  clear h
  go_enter Try.func43, Try.ntmps43
  go_wp2_with (go_at_call 59; refine (block_nofirst k _ H.out).mono ?_; rintro e w' ⟨rfl, rfl⟩)
  go_ret2
  exact ⟨rfl, rfl⟩

theorem Only.thenBelow {X : List Nat} {a b c : World} {B : Nat} (h : Only X a b) (hb : Below B b c) (hB : a.heap.size ≤ B) : Only X a c :=
  ⟨hb.os.trans h.os, hb.tape.trans h.tape, hb.output.trans h.output, Nat.le_trans h.size hb.size, fun k hk hn => (hb.block k (by omega)).trans (h.block k hk hn)⟩

theorem word_ok {V : VLay} {S : Vw} {N : Nat} {L : Lay} {M : Mem} {w : World} (h : ViewIs w V S N) (hm : MemIs w L M) (k : Int) : 0 ≤ S.word M k ∧ S.word M k ≤ 18446744073709551615 := by
  unfold Vw.word
  cases hl : S.own k with
  | some v =>
    have := h.own.wf hl
    exact bounds_u64 this
  | none =>
    simp only [Option.getD_none]
    unfold Mem.read
    split
    · cases hl2 : M.loose k with
      | some v =>
        have := hm.loose.wf hl2
        exact bounds_u64 this
      | none =>
        simp only [Option.getD_none]
        by_cases hk : k.toNat < M.sure.length
        · have := hm.words (M.sure.getD k.toNat 0) (by simp [hk])
          exact bounds_u64 this
        · simp [hk]
    · omega


theorem zero_new (w : World) : ∃ X : World, w.alloc (.cells #[.int .i64 0, .int .i64 0, .int .i64 0, .int .u64 0, .int .i64 0, .int .i64 0, .int .i64 0, .int .i64 0, .int .i64 0, .int .i64 0] 26) = X ∧ Cd.Zero X w.heap.size ∧ Below w.heap.size w X ∧ w.heap.size < X.heap.size := by
  refine ⟨_, rfl, ?_, (Below.refl _ _).alloc (Nat.le_refl _) _, by simp⟩
  unfold Cd.Zero
  show (w.heap.push _)[w.heap.size]? = _
  simp
theorem zero_only {w w' : World} {g : Nat} {X : List Nat} (h : Cd.Zero w g) (ho : Only X w w') (hg : g ∉ X) : Cd.Zero w' g := by
  have hl : g < w.heap.size := by
    by_cases e : g < w.heap.size
    · exact e
    · unfold Cd.Zero at h
      rw [Array.getElem?_eq_none (by omega)] at h
      cases h
  unfold Cd.Zero
  rw [ho.block g hl hg]
  exact h
theorem src_of_row {w : World} {g B : Nat} {f : Nat → Int} (h : w.ownsRow B 23 1 (.slice (some ⟨g, 0, none⟩) 8 8) 8 ((List.range 8).map fun (i : Nat) => Value.int .u64 (f i))) : Cd.Src w g 0 (f 0) (f 1) (f 2) (f 3) (f 4) (f 5) (f 6) (f 7) := by
  have hc : ∀ i, i < 8 → w.cell? ⟨g, i, none⟩ = some (.int .u64 (f i)) := fun i hi => by
    rw [h.cellAt i (by simpa using hi)]
    simp [hi]
  have hl := World.block_lt_of_cell? w _ (hc 0 (by omega))
  exact ⟨hl, hc 0 (by omega), hc 1 (by omega), hc 2 (by omega), hc 3 (by omega), hc 4 (by omega), hc 5 (by omega), hc 6 (by omega), hc 7 (by omega)⟩
end Go.Proofs.Ytdjnkibnnjobpaa

namespace Go.Proofs.Ytdjnkibnnjobpaa
open Go.RowKit Go.Maps Go.ChangeMaps

theorem push_modify {α : Type} (xs : Array α) (x : α) (g : α → α) : (xs.push x).modify xs.size g = xs.push (g x) := by
  apply Array.ext
  · simp
  · intro i h1 h2
    rw [Array.getElem_modify, Array.getElem_push, Array.getElem_push]
    by_cases e : i < xs.size
    · simp [e, show ¬ xs.size = i by omega]
    · have : xs.size = i := by simp at h2; omega
      simp [this]
theorem modify_same {α : Type} (xs : Array α) (j : Nat) (g : α → α) (h : ∀ x, xs[j]? = some x → g x = x) : xs.modify j g = xs := by
  apply Array.ext
  · simp
  · intro i h1 h2
    rw [Array.getElem_modify]
    by_cases e : j = i
    · subst e
      simp only [if_pos]
      exact h _ (by simp [h2])
    · simp [e]
theorem modify_alike {α : Type} (xs : Array α) (j : Nat) (g g' : α → α) (h : ∀ x, xs[j]? = some x → g x = g' x) : xs.modify j g = xs.modify j g' := by
  apply Array.ext
  · simp
  · intro i h1 h2
    rw [Array.getElem_modify, Array.getElem_modify]
    by_cases e : j = i
    · subst e
      simp only [if_pos]
      exact h _ (by simp at h2; simp [h2])
    · simp [e]
/-- Which entry bears a stamp. -/
theorem stamp_new {es : Array MapEntry} {clock : Nat} (h : ∀ x ∈ es.toList, x.born < clock) (k z : Value) : (es.push ⟨k, z, clock⟩).findIdx? (fun e => ((e.born : Nat) : Int) == (clock : Int)) = some es.size := by
  rw [Array.findIdx?_push]
  have : es.findIdx? (fun e => ((e.born : Nat) : Int) == (clock : Int)) = none := by
    rw [Array.findIdx?_eq_none_iff]
    intro x hx
    have := h x (by simpa using hx)
    simp; omega
  simp [this]
theorem stamp_old {es : Array MapEntry} (h : (es.toList.map (·.born)).Nodup) {j : Nat} {e0 : MapEntry} (hj : es[j]? = some e0) : es.findIdx? (fun e => ((e.born : Nat) : Int) == ((e0.born : Nat) : Int)) = some j := by
  obtain ⟨hl, he⟩ := Array.getElem?_eq_some_iff.1 hj
  rw [Array.findIdx?_eq_some_iff_getElem]
  refine ⟨hl, by simp [he], fun i hi => ?_⟩
  intro hp
  have hp : es[i].born = e0.born := by simp at hp; omega
  have hn := List.pairwise_iff_getElem.1 h i j (by simp; omega) (by simpa using hl) hi
  apply hn
  simp [he, hp]
/-- A set's entry, and what is stored in it, one behind the other. -/
theorem SetIs.entry {w : World} {b n : Nat} {s : Int → Bool} (h : SetIs w b n s) (hn : n < maxLen) {k : Int} (hwk : (Lit.int .i64 k).wf = true) :
    ∃ (v0 : Value) (st : Nat) (w1 w2 : World), (Instr.mapEntry 66 (.map (some b)) (.int .i64 k)).run Try.prog w = .ok (.tuple #[v0, .int .i64 st]) w1 ∧ (Instr.entryStore 66 (.map (some b)) (.int .i64 st) (.bool true)).run Try.prog w1 = .ok () w2 ∧ SetIs w2 b (n + 1) (addB s k) ∧ Only [b] w w1 ∧ Only [b] w w2 := by
  obtain ⟨D, hown, hr⟩ := h
  have hmap := hown.isMap
  have hkey := keyOf_int_mk Try.underlying3 hwk
  obtain ⟨wu, hu1, hu2, hu3⟩ := hown.store law3 Try.underlying66 hn hkey (plainElem_bool Try.underlying4 true)
  have hS : SetIs wu b (n + 1) (addB s k) := ⟨_, hu2, sreads_put hr hmap k⟩
  have hO : Only [b] w wu := (Only.refl _ _).turned hu3 (by simp)
  obtain ⟨es, clock, hb, Ft, hs, rfl⟩ := hown
  obtain ⟨s1, s2, _⟩ := Ft.stamped
  rcases law3.find w hkey es.toList Ft.keys with ⟨h1, h2⟩ | ⟨j, e0, h1, h2, h3⟩
  · have g1 : Only [b] w (setBlock w b (.map (es.push ⟨.int .i64 k, .bool false, clock⟩) (clock + 1))) := (Only.refl _ _).turned ⟨es, clock, _, _, hb, rfl⟩ (by simp)
    have hb1 : (setBlock w b (.map (es.push ⟨.int .i64 k, .bool false, clock⟩) (clock + 1))).heap[b]? = some (.map (es.push ⟨.int .i64 k, .bool false, clock⟩) (clock + 1)) := heap_setBlock_same hb _
    have hw2 : wu = setBlock (setBlock w b (.map (es.push ⟨.int .i64 k, .bool false, clock⟩) (clock + 1))) b (.map (es.push ⟨.int .i64 k, .bool true, clock⟩) (clock + 1)) := by
      simp [Instr.mapUpdate, run_underlying Try.underlying66, MapKept.run_getObj_map hb, law3.check w false hkey, h1, MapKept.run_setObj_map _ hb, Result.andThen] at hu1
      rw [← hu1]
      simp [setBlock]
    have hE : (Instr.mapEntry 66 (.map (some b)) (.int .i64 k)).run Try.prog w = .ok (.tuple #[.bool false, .int .i64 clock]) (setBlock w b (.map (es.push ⟨.int .i64 k, .bool false, clock⟩) (clock + 1))) := by
      simp [Instr.mapEntry, run_underlying Try.underlying66, MapKept.run_getObj_map hb, law3.check w false hkey, h1, MapKept.run_setObj_map _ hb, Result.andThen, setBlock, goInt]
    obtain ⟨W1, hW1⟩ : ∃ W1, setBlock w b (.map (es.push ⟨.int .i64 k, .bool false, clock⟩) (clock + 1)) = W1 := ⟨_, rfl⟩
    rw [hW1] at hE hw2 g1 hb1
    refine ⟨.bool false, clock, W1, wu, hE, ?_, hS, g1, hO⟩
    rw [hw2]
    simp [Instr.entryStore, MapKept.run_getObj_map hb1, asInt, asIntOf, stamp_new s1, push_modify, MapKept.run_setObj_map _ hb1, Result.andThen, setBlock]
  · have hj : es[j]? = some e0 := by simpa using h2
    have m1 : es.modify j (fun e => { e with key := .int .i64 k }) = es := modify_same _ _ _ fun x hx => by
      rw [hj] at hx
      cases hx
      rw [← h3]
    have g1 : Only [b] w (setBlock w b (.map es clock)) := (Only.refl _ _).turned ⟨es, clock, _, _, hb, rfl⟩ (by simp)
    have hb1 : (setBlock w b (.map es clock)).heap[b]? = some (.map es clock) := heap_setBlock_same hb _
    have m2 : es.modify j (fun e => { e with val := .bool true }) = es.modify j (fun e => { e with key := .int .i64 k, val := .bool true }) := modify_alike _ _ _ _ fun x hx => by
      rw [hj] at hx
      cases hx
      rw [← h3]
    have hw2 : wu = setBlock (setBlock w b (.map es clock)) b (.map (es.modify j (fun e => { e with key := .int .i64 k, val := .bool true })) clock) := by
      simp [Instr.mapUpdate, run_underlying Try.underlying66, MapKept.run_getObj_map hb, law3.check w false hkey, h1, hj, h3, law3.stays w hkey, MapKept.run_setObj_map _ hb, Result.andThen] at hu1
      rw [← hu1]
      simp [setBlock]
    have hE : (Instr.mapEntry 66 (.map (some b)) (.int .i64 k)).run Try.prog w = .ok (.tuple #[e0.val, .int .i64 e0.born]) (setBlock w b (.map es clock)) := by
      simp [Instr.mapEntry, run_underlying Try.underlying66, MapKept.run_getObj_map hb, law3.check w false hkey, h1, hj, h3, law3.stays w hkey, m1, MapKept.run_setObj_map _ hb, Result.andThen, setBlock, goInt]
    obtain ⟨W1, hW1⟩ : ∃ W1, setBlock w b (.map es clock) = W1 := ⟨_, rfl⟩
    rw [hW1] at hE hw2 g1 hb1
    refine ⟨e0.val, e0.born, W1, wu, hE, ?_, hS, g1, hO⟩
    rw [hw2]
    simp [Instr.entryStore, MapKept.run_getObj_map hb1, asInt, asIntOf, stamp_old s2 hj, m2, MapKept.run_setObj_map _ hb1, Result.andThen, setBlock]

/-- The words of a card, as a row. -/
def cardRow (k l s v d0 d1 d2 d3 d4 m : Int) (i : Nat) : Int := if i = 0 then Cd.wd0 k l s else if i = 1 then v else if i = 2 then Cd.wd2 d0 d1 d2 d3 else if i = 3 then Cd.wd3 d4 m else 0
theorem card_open {node : Int} (h0 : 0 ≤ node) (h1 : node < 24) : ∀ j : Int, 8 + 8 * node ≤ j → j < 8 + 8 * node + ((8 : Nat) : Int) → openI j := fun j _ _ => by unfold openI; omega
theorem wordsRow8 {w : World} {g : Nat} {k l s v d0 d1 d2 d3 d4 m : Int} (h : Cd.Row8 w g (Cd.wd0 k l s) v (Cd.wd2 d0 d1 d2 d3) (Cd.wd3 d4 m) 0 0 0 0) : Words w g 0 8 (cardRow k l s v d0 d1 d2 d3 d4 m) := by
  obtain ⟨e0, e1, e2, e3, e4, e5, e6, e7⟩ := h
  intro i hi
  rw [Nat.zero_add]
  match i, hi with
  | 0, _ => exact e0
  | 1, _ => exact e1
  | 2, _ => exact e2
  | 3, _ => exact e3
  | 4, _ => exact e4
  | 5, _ => exact e5
  | 6, _ => exact e6
  | 7, _ => exact e7

end Go.Proofs.Ytdjnkibnnjobpaa

namespace Go.Proofs.Ytdjnkibnnjobpaa
open Go.RowKit Go.Maps Go.ChangeMaps

theorem vblock_no (V : VLay) (S : Vw) (N : Nat) (k : Int) (w : World) (h : ViewIs w V S N) (hn : k < 0 ∨ 96 ≤ k) :
    Calls Try.prog 30 #[.pointer (some ⟨V.vb, 0, none⟩), .int .i64 k] w fun e w' => e = .returned (.tuple #[.slice none 0 0, .int .i64 1]) ∧ w' = w := by
  have HC : Hid (∀ w, Calls Try.prog 43 #[.int .i64 k] w fun e w' => e = .returned (.tuple #[.int .i64 0, .int .i64 1]) ∧ w' = w) := fun w => block_no k w hn
  clear hn
  go_enter Try.func30, Try.ntmps30
  go_wp2_with (first
    | (go_at_call 43; refine Calls.mono (HC.out _) ?_; rintro e w' ⟨rfl, hw⟩; obtain rfl := hw.symm)
    | (go_at_call 44; refine (void_any V S N _ h).mono ?_; rintro e w' ⟨rfl, hw⟩; obtain rfl := hw.symm)
    | go_in)
  go_ret2
  exact ⟨rfl, rfl⟩
theorem vblock_yes (V : VLay) (S : Vw) (N : Nat) (L : Lay) (M : Mem) (k : Int) (w : World) (h : ViewIs w V S N) (hm : MemIs w L M) (hv : V.mb = L.mb) (h0 : 0 ≤ k) (h1 : k < 96) :
    Calls Try.prog 30 #[.pointer (some ⟨V.vb, 0, none⟩), .int .i64 k] w fun e w' => e = .returned (.tuple #[.slice (some ⟨w.heap.size, 0, none⟩) 16 16, .int .i64 0]) ∧ w'.ownsRow w.heap.size 23 1 (.slice (some ⟨w.heap.size, 0, none⟩) 16 16) 16 ((List.range 16).map fun (i : Nat) => Value.int .u64 (S.word M (1288 + 16 * k + (i : Int)))) ∧ Below w.heap.size w w' := by
  have HC : Hid (∀ w, Calls Try.prog 43 #[.int .i64 k] w fun e w' => e = .returned (.tuple #[.int .i64 (1288 + 16 * k), .int .i64 0]) ∧ w' = w) := fun w => block_at k w h0 h1
  go_enter Try.func30, Try.ntmps30
  go_wp2_with (first
    | (go_at_call 43; refine Calls.mono (HC.out _) ?_; rintro e w' ⟨rfl, hw⟩; obtain rfl := hw.symm)
    | (go_at_call 44; refine (void_any V S N _ h).mono ?_; rintro e w' ⟨rfl, hw⟩; obtain rfl := hw.symm)
    | (go_at_call 45; refine (vrow_any V S N L M (1288 + 16 * k) 16 _ h hm hv (by omega) (by omega) (by omega)).mono ?_; rintro e w3 ⟨rfl, hrow, hb3⟩; have HX : Hid _ := hrow; clear hrow)
    | go_in)
  go_ret2
  exact ⟨rfl, HX.out, hb3⟩

/-- The words that SetBlock lays. -/
def blockRow (n : Nat) (f : Nat → Int) (i : Nat) : Int := if i < n then f i else 0
theorem block_open {k : Int} (h0 : 0 ≤ k) (h1 : k < 96) : ∀ j : Int, 1288 + 16 * k ≤ j → j < 1288 + 16 * k + ((16 : Nat) : Int) → openI j := fun j _ _ => by unfold openI; omega

theorem vsetBlock_no (V : VLay) (S : Vw) (N : Nat) (k : Int) (a : Option Addr) (n c : Nat) (w : World) (h : ViewIs w V S N) (hn : k < 0 ∨ 96 ≤ k) :
    Calls Try.prog 50 #[.pointer (some ⟨V.vb, 0, none⟩), .int .i64 k, .slice a n c] w fun e w' => e = .returned (.int .i64 1) ∧ w' = w := by
  have HC : Hid (∀ w, Calls Try.prog 43 #[.int .i64 k] w fun e w' => e = .returned (.tuple #[.int .i64 0, .int .i64 1]) ∧ w' = w) := fun w => block_no k w hn
  clear hn
  go_enter Try.func50, Try.ntmps50
  go_wp2_with (first
    | (go_at_call 43; refine Calls.mono (HC.out _) ?_; rintro e w' ⟨rfl, hw⟩; obtain rfl := hw.symm)
    | (go_at_call 44; refine (void_any V S N _ h).mono ?_; rintro e w' ⟨rfl, hw⟩; obtain rfl := hw.symm)
    | go_in)
  go_ret
  exact ⟨rfl, rfl⟩
theorem vsetBlock_long (V : VLay) (S : Vw) (N : Nat) (k : Int) (a : Option Addr) (n c : Nat) (w : World) (h : ViewIs w V S N) (h0 : 0 ≤ k) (h1 : k < 96) (hn : 16 < n) :
    Calls Try.prog 50 #[.pointer (some ⟨V.vb, 0, none⟩), .int .i64 k, .slice a n c] w fun e w' => e = .returned (.int .i64 1) ∧ w' = w := by
  have HC : Hid (∀ w, Calls Try.prog 43 #[.int .i64 k] w fun e w' => e = .returned (.tuple #[.int .i64 (1288 + 16 * k), .int .i64 0]) ∧ w' = w) := fun w => block_at k w h0 h1
  have hn' : (16 : Int) < n := by omega
  go_enter Try.func50, Try.ntmps50
  go_wp2_with (first
    | (go_at_call 43; refine Calls.mono (HC.out _) ?_; rintro e w' ⟨rfl, hw⟩; obtain rfl := hw.symm)
    | (go_at_call 44; refine (void_any V S N _ h).mono ?_; rintro e w' ⟨rfl, hw⟩; obtain rfl := hw.symm)
    | go_in)
  go_ret
  exact ⟨rfl, rfl⟩

theorem size22b : (Try.prog.info? 23).map (·.size) = some 1 := by kernel_rfl
theorem zero16 : #[.int .u64 0, .int .u64 0, .int .u64 0, .int .u64 0, .int .u64 0, .int .u64 0, .int .u64 0, .int .u64 0, .int .u64 0, .int .u64 0, .int .u64 0, .int .u64 0, .int .u64 0, .int .u64 0, .int .u64 0, .int .u64 0] = (rowI (fun _ => 0) 16).toArray := by kernel_rfl
/-- A copy of at most 16 words into a new row of 16. -/
theorem run_copy16 (w : World) (g : Nat) (t : TypeId) (f h : Nat → Int) (sp : Option Addr) (n c : Nat) (hR : w.heap[g]? = some (.cells (rowI f 16).toArray t (0, 0))) (hU : UAt w sp n h) (hn : n ≤ 16) :
    ∃ w', (Builtin.copy_ #[30, 30] 3 #[.slice (some ⟨g, 0, none⟩) 16 16, .slice sp n c]).run Try.prog w = .ok (.int .i64 n) w' ∧ Hid (w'.heap[g]? = some (.cells (rowI (over f h 0 n) 16).toArray t (0, 0))) ∧ Hid (Below g w w') := by
  by_cases h0 : n = 0
  · subst h0
    have hr := run_copy_none (P := Try.prog) w 30 30 3 23 (some ⟨g, 0, none⟩) sp 16 16 0 c Try.underlying30 size22b rfl
    refine ⟨w, hr, ?_, Below.refl _ _⟩
    have e : over f h 0 0 = f := by
      funext j
      unfold over
      rw [if_neg (by omega)]
    rw [e]; exact hR
  · obtain ⟨b, o, rfl, hlt, hc⟩ := hU.resolve_left h0
    have hr := run_copy_row (P := Try.prog) w 30 30 3 23 g 0 16 16 ⟨b, o, none⟩ n c (rowI f 16).toArray t (rowI h n) Try.underlying30 size22b hR (by rw [rowI_len]; exact (Nat.min_eq_left hn).symm) ?src ?fit (rowI_one _ _)
    case src =>
      intro j v hj
      by_cases hjm : j < n
      · rw [rowI_at h n j hjm] at hj
        cases hj
        rw [Addr.add_lit]
        exact hc j hjm
      · rw [rowI_out h n j hjm] at hj
        cases hj
    case fit => rw [rowI_len, List.size_toArray, rowI_len]; omega
    have e := splice_rows f h 16 0 n (by omega)
    rw [e, rowI_len] at hr
    exact ⟨_, hr, setRow_heap w g _ _ _ _ hR, below_setRow (Below.refl _ _) (Nat.le_refl _) _⟩

set_option maxHeartbeats 1000000 in
set_option maxRecDepth 100000 in
theorem vsetBlock_yes (V : VLay) (S : Vw) (N : Nat) (k : Int) (a : Option Addr) (n c : Nat) (f : Nat → Int) (w : World) (h : ViewIs w V S N) (hN : N < 900000000) (h0 : 0 ≤ k) (h1 : k < 96) (hn : n ≤ 16) (hU : UAt w a n f) (hf : ∀ i, i < n → (Lit.int .u64 (f i)).wf = true) :
    Calls Try.prog 50 #[.pointer (some ⟨V.vb, 0, none⟩), .int .i64 k, .slice a n c] w fun e w' => e = .returned (.int .i64 0) ∧ ViewIs w' V { S with own := rowOwn S.own (1288 + 16 * k) (blockRow n f) 16 } (N + 16) ∧ Only [V.ob] w w' := by
  have HC : Hid (∀ w, Calls Try.prog 43 #[.int .i64 k] w fun e w' => e = .returned (.tuple #[.int .i64 (1288 + 16 * k), .int .i64 0]) ∧ w' = w) := fun w => block_at k w h0 h1
  have HF : Hid (∀ i, i < 16 → (Lit.int .u64 (blockRow n f i)).wf = true) := fun i hi => by
    unfold blockRow
    split
    · exact hf i (by assumption)
    · rfl
  have HU : Hid (UAt w a n f) := hU
  have HLT : Hid (∀ j ∈ V.all, j < w.heap.size) := h.all_lt
  have hn' : ¬ (16 : Int) < n := by omega
  clear hf hU
  go_enter Try.func50, Try.ntmps50
  go_wp2_with fail
  refine Calls.mono (HC.out _) ?_
  rintro e w' ⟨rfl, hw⟩
  obtain rfl := hw.symm
  go_wp2_with fail
  refine (void_any V S N _ h).mono ?_
  rintro e w' ⟨rfl, hw⟩
  obtain rfl := hw.symm
  have hbA : Below w.heap.size w (w.alloc (.cells #[.int .u64 0, .int .u64 0, .int .u64 0, .int .u64 0, .int .u64 0, .int .u64 0, .int .u64 0, .int .u64 0, .int .u64 0, .int .u64 0, .int .u64 0, .int .u64 0, .int .u64 0, .int .u64 0, .int .u64 0, .int .u64 0] 111)) := (Below.refl _ _).alloc (Nat.le_refl _) _
  have hR0 : (w.alloc (.cells #[.int .u64 0, .int .u64 0, .int .u64 0, .int .u64 0, .int .u64 0, .int .u64 0, .int .u64 0, .int .u64 0, .int .u64 0, .int .u64 0, .int .u64 0, .int .u64 0, .int .u64 0, .int .u64 0, .int .u64 0, .int .u64 0] 111)).heap[w.heap.size]? = some (.cells (rowI (fun _ => 0) 16).toArray 111 (0, 0)) := by
    rw [heap_alloc_new, zero16]
  obtain ⟨w5, hrun5, R5, B5⟩ := run_copy16 _ w.heap.size _ _ f a n c hR0 (HU.out.later (Nat.le_refl _) hbA) hn
  have hB : Below w.heap.size w w5 := hbA.trans B5.out
  have HV5 : Hid (ViewIs w5 V S N) := h.later hB
  have HB5 : Hid (Below w.heap.size w w5) := hB
  have HG : Hid (w.heap.size < w5.heap.size ∧ w.heap.size ∉ V.all) := ⟨by have := B5.out.size; simp at this; omega, fun hm => by have := HLT.out _ hm; omega⟩
  have HW : Hid (Words w5 w.heap.size 0 16 (blockRow n f)) := fun i hi => by
    have e1 : w5.cell? ⟨w.heap.size, i, none⟩ = some (.int .u64 (over (fun _ => 0) f 0 n i)) := by
      rw [cell_of_row w5 w.heap.size i _ _ _ R5.out]
      simpa using rowI_at (over (fun _ => 0) f 0 n) 16 i hi
    rw [Nat.zero_add, e1]
    unfold over blockRow
    by_cases e : i < n
    · rw [if_pos ⟨by omega, by omega⟩, if_pos e]; rfl
    · rw [if_neg (by omega), if_neg e]
  clear hbA hR0 R5 B5 hB
  have HS : Hid (Calls Try.prog 64 #[.pointer (some ⟨V.vb, 0, none⟩), .int .i64 (1288 + 16 * k), .slice (some ⟨w.heap.size, 0, none⟩) 16 16] w5 fun e w' => e = .returned (.tuple #[]) ∧ ViewIs w' V { S with own := rowOwn S.own (1288 + 16 * k) (blockRow n f) 16 } (N + 16) ∧ Only [V.ob] w5 w') :=
    vsetRow_any V S N (1288 + 16 * k) w.heap.size 0 16 16 (blockRow n f) w5 HV5.out (by omega) (by omega) (by omega) (by omega) (block_open h0 h1) HG.out.2 HG.out.1 HF.out HW.out
  go_wp2_with fail
  refine Calls.mono (Hid.out HS) ?_
  rintro e w3 ⟨rfl, hv3, ho3⟩
  go_wp2
  go_ret
  exact ⟨rfl, hv3, (Only.of_below HB5.out).trans ho3⟩

theorem away_any (V : VLay) (S : Vw) (N : Nat) (k : Int) (w : World) (h : ViewIs w V S N) (hk : (Lit.int .i64 k).wf = true) :
    Calls Try.prog 58 #[.pointer (some ⟨V.vb, 0, none⟩), .int .i64 k] w fun e w' => e = .returned (.bool (S.away k)) ∧ w' = w := by
  have c4 := h.c4
  have hr := h.away.run hk
  go_enter Try.func58, Try.ntmps58
  go_wp2_with (first
    | (go_at_call 44; refine (void_any V S N _ h).mono ?_; rintro e w' ⟨rfl, hw⟩; obtain rfl := hw.symm)
    | go_in)
  go_ret
  exact ⟨rfl, rfl⟩
/-- Is the block free, in the memory and in the view, and not to be left alone? -/
def freshB (S : Vw) (M : Mem) (k : Int) : Bool := decide (0 ≤ k ∧ k < 96) && decide (M.read (200 + k) = 0) && decide (S.word M (200 + k) = 0) && !S.away k
theorem vfresh_no (V : VLay) (S : Vw) (N : Nat) (k : Int) (w : World) (h : ViewIs w V S N) (hn : k < 0 ∨ 96 ≤ k) :
    Calls Try.prog 42 #[.pointer (some ⟨V.vb, 0, none⟩), .int .i64 k] w fun e w' => e = .returned (.bool false) ∧ w' = w := by
  have HC : Hid (∀ w, Calls Try.prog 55 #[.int .i64 k] w fun e w' => e = .returned (.tuple #[.int .i64 0, .int .i64 1]) ∧ w' = w) := fun w => owner_no k w hn
  clear hn
  go_enter Try.func42, Try.ntmps42
  go_wp2_with (first
    | (go_at_call 55; refine Calls.mono (HC.out _) ?_; rintro e w' ⟨rfl, hw⟩; obtain rfl := hw.symm)
    | (go_at_call 44; refine (void_any V S N _ h).mono ?_; rintro e w' ⟨rfl, hw⟩; obtain rfl := hw.symm)
    | go_in)
  go_ret
  exact ⟨rfl, rfl⟩
theorem vfresh_yes (V : VLay) (S : Vw) (N : Nat) (L : Lay) (M : Mem) (k : Int) (w : World) (h : ViewIs w V S N) (hm : MemIs w L M) (hv : V.mb = L.mb) (h0 : 0 ≤ k) (h1 : k < 96) :
    Calls Try.prog 42 #[.pointer (some ⟨V.vb, 0, none⟩), .int .i64 k] w fun e w' => e = .returned (.bool (freshB S M k)) ∧ w' = w := by
  have HC : Hid (∀ w, Calls Try.prog 55 #[.int .i64 k] w fun e w' => e = .returned (.tuple #[.int .i64 (200 + k), .int .i64 0]) ∧ w' = w) := fun w => owner_at k w h0 h1
  have c0 := h.c0
  rw [hv] at c0
  have hk : (Lit.int .i64 (200 + k)).wf = true := WalkArith.wf_i64 (by omega)
  have hk2 : (Lit.int .i64 k).wf = true := WalkArith.wf_i64 (by omega)
  have hf : freshB S M k = (decide (M.read (200 + k) = 0) && decide (S.word M (200 + k) = 0) && !S.away k) := by simp [freshB, h0, h1]
  rw [hf]
  clear hf
  have HR : Hid (Calls Try.prog 56 #[.pointer (some ⟨L.mb, 0, none⟩), .int .i64 (200 + k)] w fun e w' => e = .returned (.int .u64 (M.read (200 + k))) ∧ w' = w) := read_any L M _ _ hm hk
  have HV : Hid (Calls Try.prog 57 #[.pointer (some ⟨V.vb, 0, none⟩), .int .i64 (200 + k)] w fun e w' => e = .returned (.int .u64 (S.word M (200 + k))) ∧ w' = w) := vread_any V S N L M _ _ h hm hv hk
  have HA : Hid (Calls Try.prog 58 #[.pointer (some ⟨V.vb, 0, none⟩), .int .i64 k] w fun e w' => e = .returned (.bool (S.away k)) ∧ w' = w) := away_any V S N k w h hk2
  obtain ⟨X, hX⟩ : ∃ X, M.read (200 + k) = X := ⟨_, rfl⟩
  obtain ⟨Y, hY⟩ : ∃ Y, S.word M (200 + k) = Y := ⟨_, rfl⟩
  obtain ⟨A, hA⟩ : ∃ A, S.away k = A := ⟨_, rfl⟩
  rw [hX] at HR
  rw [hY] at HV
  rw [hA] at HA
  rw [hX, hY, hA]
  clear hX hY hA
  by_cases x0 : X = 0
  · by_cases y0 : Y = 0
    · subst x0 y0
      go_enter Try.func42, Try.ntmps42
      go_wp2_with (first
        | (go_at_call 55; refine Calls.mono (HC.out _) ?_; rintro e w' ⟨rfl, hw⟩; obtain rfl := hw.symm)
        | (go_at_call 44; refine (void_any V S N _ h).mono ?_; rintro e w' ⟨rfl, hw⟩; obtain rfl := hw.symm)
        | (go_at_call 56; refine Calls.mono (Hid.out HR) ?_; rintro e w' ⟨rfl, hw⟩; obtain rfl := hw.symm)
        | (go_at_call 57; refine Calls.mono (Hid.out HV) ?_; rintro e w' ⟨rfl, hw⟩; obtain rfl := hw.symm)
        | (go_at_call 58; refine Calls.mono (Hid.out HA) ?_; rintro e w' ⟨rfl, hw⟩; obtain rfl := hw.symm)
        | go_in)
      go_ret
      exact ⟨ret_bool (by simp), rfl⟩
    · subst x0
      have y1 : (Y == 0) = false := by simpa using y0
      have y2 : decide (Y = 0) = false := by simpa using y0
      rw [y2]
      clear y0 y2
      go_enter Try.func42, Try.ntmps42
      go_wp2_with (first
        | (go_at_call 55; refine Calls.mono (HC.out _) ?_; rintro e w' ⟨rfl, hw⟩; obtain rfl := hw.symm)
        | (go_at_call 44; refine (void_any V S N _ h).mono ?_; rintro e w' ⟨rfl, hw⟩; obtain rfl := hw.symm)
        | (go_at_call 56; refine Calls.mono (Hid.out HR) ?_; rintro e w' ⟨rfl, hw⟩; obtain rfl := hw.symm)
        | (go_at_call 57; refine Calls.mono (Hid.out HV) ?_; rintro e w' ⟨rfl, hw⟩; obtain rfl := hw.symm)
        | go_in)
      go_ret
      exact ⟨ret_bool (by simp), rfl⟩
  · have x1 : (X == 0) = false := by simpa using x0
    have x2 : decide (X = 0) = false := by simpa using x0
    rw [x2]
    clear x0 x2
    go_enter Try.func42, Try.ntmps42
    go_wp2_with (first
      | (go_at_call 55; refine Calls.mono (HC.out _) ?_; rintro e w' ⟨rfl, hw⟩; obtain rfl := hw.symm)
      | (go_at_call 44; refine (void_any V S N _ h).mono ?_; rintro e w' ⟨rfl, hw⟩; obtain rfl := hw.symm)
      | (go_at_call 56; refine Calls.mono (Hid.out HR) ?_; rintro e w' ⟨rfl, hw⟩; obtain rfl := hw.symm)
      | go_in)
    go_ret
    exact ⟨ret_bool (by simp), rfl⟩

end Go.Proofs.Ytdjnkibnnjobpaa

namespace Go.Proofs.Ytdjnkibnnjobpaa
open Go.RowKit Go.Maps Go.ChangeMaps

set_option maxHeartbeats 1000000 in
theorem forget_any (vb : Nat) (x0 x1 x2 x3 x4 x5 : Value) (w : World) (h : w.heap[vb]? = some (.cells #[x0, x1, x2, x3, x4, x5] 68 (0, 0))) :
    Calls Try.prog 26 #[.pointer (some ⟨vb, 0, none⟩)] w fun e w' => e = .returned (.tuple #[]) ∧ w'.heap[vb]? = some (.cells #[x0, .map (some w.heap.size), .map (some (w.heap.size + 1)), .map (some (w.heap.size + 1 + 1)), x4, x5] 68 (0, 0))
      ∧ MapIs w' w.heap.size 0 (fun _ => none) ∧ SetIs w' (w.heap.size + 1) 0 (fun _ => false) ∧ SetIs w' (w.heap.size + 1 + 1) 0 (fun _ => false) ∧ Only [vb] w w' := by
  have hlt : vb < w.heap.size := (Array.getElem?_eq_some_iff.1 h).1
  obtain ⟨W, hW⟩ : ∃ W, ((w.alloc (.map #[] 0)).alloc (.map #[] 0)).alloc (.map #[] 0) = W := ⟨_, rfl⟩
  have h3 : W.heap[vb]? = some (.cells #[x0, x1, x2, x3, x4, x5] 68 (0, 0)) := by
    rw [← hW, Below.heap_alloc _ _ _ (by simp; omega), Below.heap_alloc _ _ _ (by simp; omega), Below.heap_alloc _ _ _ hlt]
    exact h
  have m1 : MapIs W w.heap.size 0 (fun _ => none) := (madeMap w).of_block (by rw [← hW, Below.heap_alloc _ _ _ (by simp; omega), Below.heap_alloc _ _ _ (by simp)])
  have m2 : SetIs W (w.heap.size + 1) 0 (fun _ => false) := by
    have h1 : (w.alloc (.map #[] 0)).heap.size = w.heap.size + 1 := by simp
    have h2 := smade (w.alloc (.map #[] 0))
    rw [h1] at h2
    exact h2.of_block (by rw [← hW, Below.heap_alloc _ _ _ (by simp)])
  have m3 : SetIs W (w.heap.size + 1 + 1) 0 (fun _ => false) := by
    have h1 : ((w.alloc (.map #[] 0)).alloc (.map #[] 0)).heap.size = w.heap.size + 1 + 1 := by simp
    have h2 := smade ((w.alloc (.map #[] 0)).alloc (.map #[] 0))
    rw [h1] at h2
    rw [← hW]
    exact h2
  have hO : Only [vb] w W := by rw [← hW]; exact (((Only.refl _ _).alloc _).alloc _).alloc _
  have fz : ∀ i, W.frozen? ⟨vb, i, none⟩ = false := fun i => frozen_of_row W vb i _ _ h3
  have c1 : W.cell? ⟨vb, 1, none⟩ = some x1 := by rw [cell_of_row W vb 1 _ _ _ h3]; rfl
  have c2 : W.cell? ⟨vb, 2, none⟩ = some x2 := by rw [cell_of_row W vb 2 _ _ _ h3]; rfl
  have c3 : W.cell? ⟨vb, 3, none⟩ = some x3 := by rw [cell_of_row W vb 3 _ _ _ h3]; rfl
  have fz1 := fz 1
  have fz2 := fz 2
  have fz3 := fz 3
  rw [← hW] at fz1 fz2 fz3 c1 c2 c3
  clear fz
  have hmm := @run_makeMap Try.prog
  have g1 := heap_setCell_same W vb 1 _ _ (Value.map (some w.heap.size)) h3
  have g2 := heap_setCell_same _ vb 2 _ _ (Value.map (some (w.heap.size + 1))) g1
  have g3 := heap_setCell_same _ vb 3 _ _ (Value.map (some (w.heap.size + 1 + 1))) g2
  have HG3 : Hid _ := g3
  clear g1 g2 g3
  have HM1 : Hid (MapIs W w.heap.size 0 (fun _ => none)) := m1
  have HM2 : Hid (SetIs W (w.heap.size + 1) 0 (fun _ => false)) := m2
  have HM3 : Hid (SetIs W (w.heap.size + 1 + 1) 0 (fun _ => false)) := m3
  have HO : Hid (Only [vb] w W) := hO
  have HW : Hid (((w.alloc (.map #[] 0)).alloc (.map #[] 0)).alloc (.map #[] 0) = W) := hW
  clear m1 m2 m3 hO hW h3 h
  go_enter Try.func26, Try.ntmps26
  go_wp2
  rw [HW.out]
  go_end0
  have hk : ∀ j, j ≠ vb → ∀ u1 u2 u3 : Value, (((W.setCell ⟨vb, 1, none⟩ u1).setCell ⟨vb, 2, none⟩ u2).setCell ⟨vb, 3, none⟩ u3).heap[j]? = W.heap[j]? := fun j hj u1 u2 u3 => by
    rw [Below.heap_setCell _ _ _ _ hj, Below.heap_setCell _ _ _ _ hj, Below.heap_setCell _ _ _ _ hj]
  exact ⟨rfl, HG3.out, HM1.out.of_block (hk _ (by omega) _ _ _), HM2.out.of_block (hk _ (by omega) _ _ _), HM3.out.of_block (hk _ (by omega) _ _ _),
    ((HO.out.setCell (p := ⟨vb, 1, none⟩) (by simp) _).setCell (p := ⟨vb, 2, none⟩) (by simp) _).setCell (p := ⟨vb, 3, none⟩) (by simp) _⟩

/-- Numbers at a slice's address. -/
def IntsAt (w : World) (a : Option Addr) (n : Nat) (f : Nat → Int) : Prop := n = 0 ∨ ∃ b o, a = some ⟨b, o, none⟩ ∧ b < w.heap.size ∧ ∀ i, i < n → w.cell? ⟨b, o + i, none⟩ = some (.int .i64 (f i))
theorem IntsAt.later {w w' : World} {a : Option Addr} {n : Nat} {f : Nat → Int} (h : IntsAt w a n f) {B : Nat} (hB : w.heap.size ≤ B) (hb : Below B w w') : IntsAt w' a n f := by
  rcases h with h | ⟨b, o, e, hlt, hc⟩
  · exact .inl h
  · exact .inr ⟨b, o, e, by have := hb.size; omega, fun i hi => (hb.cell (p := ⟨b, o + i, none⟩) (by show b < B; omega)).trans (hc i hi)⟩
def namedI (f : Nat → Int) (k : Nat) : Int → Bool := fun j => decide (∃ i, i < k ∧ f i = j)
theorem namedI_zero (f : Nat → Int) : namedI f 0 = fun _ => false := by
  funext j
  unfold namedI
  rw [decide_eq_false_iff_not]
  rintro ⟨i, hi, _⟩
  omega
theorem namedI_succ (f : Nat → Int) (k : Nat) : addB (namedI f k) (f k) = namedI f (k + 1) := by
  funext j
  unfold namedI addB
  rw [Bool.eq_iff_iff]
  simp only [Bool.or_eq_true, decide_eq_true_eq]
  constructor
  · rintro (e | ⟨i, hi, e⟩)
    · exact ⟨k, by omega, e.symm⟩
    · exact ⟨i, by omega, e⟩
  · rintro ⟨i, hi, e⟩
    by_cases h : i = k
    · subst h; exact .inl e.symm
    · exact .inr ⟨i, by omega, e⟩

/-- What it is to leave alone. -/
def VLay.shun (V : VLay) (g1 g2 : Nat) : VLay := ⟨V.vb, V.mb, V.ob, V.sb, V.nb, some g1, some g2⟩
theorem vnew_nil (w : World) : Calls Try.prog 8 #[.pointer none] w fun e w' => e = .returned (.pointer none) ∧ w' = w := by
  go_enter Try.func8, Try.ntmps8
  go_wp2
  go_ret
  exact ⟨rfl, rfl⟩
theorem vnew_small (L : Lay) (M : Mem) (w : World) (h : MemIs w L M) (hn : M.sure.length ≠ 2824) : Calls Try.prog 8 #[.pointer (some ⟨L.mb, 0, none⟩)] w fun e w' => e = .returned (.pointer none) ∧ w' = w := by
  have h1 : ((M.sure.length : Int) == 2824) = false := by simp; omega
  have h2 : ((M.sure.length : Int) != 2824) = true := by simp; omega
  have H : Hid (MemIs w L M) := h
  clear h hn
  obtain ⟨X, hX⟩ : ∃ X : Nat, M.sure.length = X := ⟨_, rfl⟩
  have HS : Hid (Calls Try.prog 24 #[.pointer (some ⟨L.mb, 0, none⟩)] w fun e w' => e = .returned (.int .i64 M.sure.length) ∧ w' = w) := size_any L M w H.out
  rw [hX] at HS h1 h2
  clear hX
  go_enter Try.func8, Try.ntmps8
  go_wp2_with (first
    | (go_at_call 24; refine Calls.mono (Hid.out HS) ?_; rintro e w' ⟨rfl, hw⟩; obtain rfl := hw.symm)
    | (go_at_call 25; refine (planSize_any _).mono ?_; rintro e w' ⟨rfl, hw⟩; obtain rfl := hw.symm)
    | go_in)
  go_ret
  exact ⟨rfl, rfl⟩
/-- A view that New has made. -/
def newLay (mb G : Nat) : VLay := ⟨G, mb, G + 1, G + 1 + 1, G + 1 + 1 + 1, none, none⟩
set_option maxHeartbeats 1000000 in
theorem vnew_yes (L : Lay) (M : Mem) (w : World) (h : MemIs w L M) (hn : M.sure.length = 2824) : Calls Try.prog 8 #[.pointer (some ⟨L.mb, 0, none⟩)] w fun e w' => e = .returned (.pointer (some ⟨w.heap.size, 0, none⟩)) ∧ ViewIs w' (newLay L.mb w.heap.size) Vw.new 0 ∧ Below w.heap.size w w' := by
  have HS : Hid (Calls Try.prog 24 #[.pointer (some ⟨L.mb, 0, none⟩)] w fun e w' => e = .returned (.int .i64 2824) ∧ w' = w) := by
    have := size_any L M w h
    rw [hn] at this
    exact this
  clear hn h
  have ho : (w.alloc (.cells #[.pointer (some ⟨L.mb, 0, none⟩), .map none, .map none, .map none, .map none, .map none] 68)).heap[w.heap.size]? = some (.cells #[.pointer (some ⟨L.mb, 0, none⟩), .map none, .map none, .map none, .map none, .map none] 68 (0, 0)) := heap_alloc_new _ _
  have HF : Hid _ := forget_any w.heap.size _ _ _ _ _ _ _ ho
  have hb : Below w.heap.size w (w.alloc (.cells #[.pointer (some ⟨L.mb, 0, none⟩), .map none, .map none, .map none, .map none, .map none] 68)) := (Below.refl _ _).alloc (Nat.le_refl _) _
  have HB : Hid _ := hb
  clear ho hb
  go_enter Try.func8, Try.ntmps8
  go_wp2_with fail
  refine Calls.mono (Hid.out HS) ?_
  rintro e w' ⟨rfl, hw⟩
  obtain rfl := hw.symm
  go_wp2_with fail
  refine (planSize_any _).mono ?_
  rintro e w' ⟨rfl, hw⟩
  obtain rfl := hw.symm
  go_wp2_with fail
  refine Calls.mono (Hid.out HF) ?_
  rintro e w2 ⟨rfl, o1, m1, m2, m3, hO⟩
  go_wp2
  go_ret
  have hs : (w.alloc (.cells #[.pointer (some ⟨L.mb, 0, none⟩), .map none, .map none, .map none, .map none, .map none] 68)).heap.size = w.heap.size + 1 := by simp
  rw [hs] at o1 m1 m2 m3
  refine ⟨rfl, ⟨o1, m1, m2, m3, fun _ => rfl, fun _ => rfl, ⟨by simp [newLay], by simp [newLay], by simp [newLay]⟩, fun _ e => by simp [newLay] at e, fun _ e => by simp [newLay] at e, fun _ _ h => by simp [Vw.new] at h, fun _ h => by simp [Vw.new] at h, fun _ h => by simp [Vw.new] at h⟩, ?_⟩
  exact HB.out.trans (hO.below (by simp) (by simp))

end Go.Proofs.Ytdjnkibnnjobpaa

namespace Go.Proofs.Ytdjnkibnnjobpaa
open Go.RowKit Go.Maps Go.ChangeMaps

/-- A view over its memory. -/
structure On (w : World) (V : VLay) (S : Vw) (N : Nat) (L : Lay) (M : Mem) : Prop where
  view : ViewIs w V S N
  mem : MemIs w L M
  mb : V.mb = L.mb
  vl : ∀ b ∈ L.blocks, b ∉ V.all
section
variable {w w1 : World} {V : VLay} {S S1 : Vw} {N N1 : Nat} {L : Lay} {M : Mem}
theorem On.later (h : On w V S N L M) (hb : Below w.heap.size w w1) : On w1 V S N L M := ⟨h.view.later hb, h.mem.later hb, h.mb, h.vl⟩
theorem On.mono (h : On w V S N L M) (hn : N ≤ N1) : On w V S N1 L M := ⟨h.view.mono hn, h.mem, h.mb, h.vl⟩
theorem On.step (h : On w V S N L M) (hv : ViewIs w1 V S1 N1) {X : List Nat} (ho : Only X w w1) (hX : ∀ j ∈ X, j ∈ V.all) : On w1 V S1 N1 L M :=
  ⟨hv, h.mem.kept ho (fun k hk hk2 => h.vl k hk (hX k hk2)), h.mb, h.vl⟩
theorem On.ok (h : On w V S N L M) (k : Int) : 0 ≤ S.word M k ∧ S.word M k ≤ 18446744073709551615 := word_ok h.view h.mem k
end
theorem only_blocks {V : VLay} {X : List Nat} {a b : World} (h : Only X a b) (hX : ∀ j ∈ X, j ∈ V.blocks) : Only V.blocks a b := h.mono hX

theorem miss_no (V : VLay) (S : Vw) (N : Nat) (L : Lay) (M : Mem) (w : World) (h : On w V S N L M) :
    Calls Try.prog 62 #[.pointer (some ⟨V.vb, 0, none⟩)] w fun e w' => e = .returned (.bool false) ∧ Below w.heap.size w w' := by
  have HB : Hid _ := vblock_yes V S N L M 0 w h.view h.mem h.mb (by omega) (by omega)
  clear h
  go_enter Try.func62, Try.ntmps62
  go_wp2_with fail
  refine Calls.mono (Hid.out HB) ?_
  rintro e w1 ⟨rfl, _, hb⟩
  have HB1 : Hid (Below w.heap.size w w1) := hb
  clear hb
  go_wp2
  go_ret
  exact ⟨rfl, HB1.out⟩

/-- With block k a file's, and its words 0. -/
def Vw.give (S : Vw) (k node : Int) : Vw := { S with own := rowOwn (upd S.own (200 + k) (some (node + 1))) (1288 + 16 * k) (fun _ => 0) 16 }
theorem blockRow_nil (f : Nat → Int) : blockRow 0 f = fun _ => 0 := by
  funext i
  unfold blockRow
  simp
theorem owner_open {k : Int} (h0 : 0 ≤ k) (h1 : k < 96) : openB (200 + k) = true := (openB_iff _).2 (by unfold openI; omega)
set_option maxHeartbeats 1000000 in
theorem give_any (V : VLay) (S : Vw) (N : Nat) (L : Lay) (M : Mem) (k node : Int) (w : World) (h : On w V S N L M) (hN : N < 800000000) (h0 : 0 ≤ k) (h1 : k < 96) (n0 : 0 ≤ node) (n1 : node < 24) :
    Calls Try.prog 63 #[.pointer (some ⟨V.vb, 0, none⟩), .int .i64 k, .int .i64 node] w fun e w' => e = .returned (.tuple #[]) ∧ On w' V (S.give k node) (N + 17) L M ∧ Only V.blocks w w' := by
  have HO : Hid (∀ w, Calls Try.prog 55 #[.int .i64 k] w fun e w' => e = .returned (.tuple #[.int .i64 (200 + k), .int .i64 0]) ∧ w' = w) := fun w => owner_at k w h0 h1
  have hw1 : IntKind.u64.wrap node = node := by rw [IntKind.wrap_u64]; omega
  have hw2 : IntKind.u64.wrap (node + 1) = node + 1 := by rw [IntKind.wrap_u64]; omega
  have H : Hid (On w V S N L M) := h
  clear h
  go_enter Try.func63, Try.ntmps63
  go_wp2_with fail
  refine Calls.mono (HO.out _) ?_
  rintro e w' ⟨rfl, hw⟩
  obtain rfl := hw.symm
  go_wp2_with fail
  refine (vwrite_yes V S N (200 + k) (node + 1) w H.out.view (owner_open h0 h1) (by omega) (WalkArith.wf_i64 (by omega)) (WalkArith.wf_u64 (by omega))).mono ?_
  rintro e w1 ⟨rfl, hv1, ho1⟩
  have H1 : Hid (On w1 V { S with own := upd S.own (200 + k) (some (node + 1)) } (N + 1) L M) := H.out.step hv1 ho1 (by simp [VLay.all, VLay.blocks])
  have HO1 : Hid (Only V.blocks w w1) := only_blocks ho1 (by simp [VLay.blocks])
  clear hv1 ho1
  go_wp2_with fail
  refine (vsetBlock_yes V _ (N + 1) k none 0 0 (fun _ => 0) w1 H1.out.view (by omega) h0 h1 (by omega) (.inl rfl) (fun i hi => absurd hi (Nat.not_lt_zero i))).mono ?_
  rintro e w2 ⟨rfl, hv2, ho2⟩
  rw [blockRow_nil] at hv2
  have H2 : Hid (On w2 V (S.give k node) (N + 17) L M) := H1.out.step hv2 ho2 (by simp [VLay.all, VLay.blocks])
  have HO2 : Hid (Only V.blocks w w2) := HO1.out.trans (only_blocks ho2 (by simp [VLay.blocks]))
  clear hv2 ho2
  go_wp2
  go_end0
  exact ⟨rfl, H2.out, HO2.out⟩

theorem ownerAt_yes (V : VLay) (S : Vw) (N : Nat) (L : Lay) (M : Mem) (k : Int) (w : World) (h : On w V S N L M) (h0 : 0 ≤ k) (h1 : k < 96) :
    Calls Try.prog 60 #[.pointer (some ⟨V.vb, 0, none⟩), .int .i64 k] w fun e w' => e = .returned (.tuple #[.int .i64 (200 + k), .int .i64 0]) ∧ Below w.heap.size w w' := by
  have HM : Hid _ := miss_no V S N L M w h
  have HO : Hid (∀ w, Calls Try.prog 55 #[.int .i64 k] w fun e w' => e = .returned (.tuple #[.int .i64 (200 + k), .int .i64 0]) ∧ w' = w) := fun w => owner_at k w h0 h1
  clear h
  go_enter Try.func60, Try.ntmps60
  go_wp2_with fail
  refine Calls.mono (Hid.out HM) ?_
  rintro e w1 ⟨rfl, hb⟩
  have HB1 : Hid (Below w.heap.size w w1) := hb
  clear hb
  go_wp2_with fail
  refine Calls.mono (HO.out _) ?_
  rintro e w' ⟨rfl, hw⟩
  obtain rfl := hw.symm
  go_wp2
  go_ret2
  exact ⟨rfl, HB1.out⟩
theorem ownerAt_no (V : VLay) (S : Vw) (N : Nat) (L : Lay) (M : Mem) (k : Int) (w : World) (h : On w V S N L M) (hk : k < 0 ∨ 96 ≤ k) :
    Calls Try.prog 60 #[.pointer (some ⟨V.vb, 0, none⟩), .int .i64 k] w fun e w' => e = .returned (.tuple #[.int .i64 0, .int .i64 1]) ∧ Below w.heap.size w w' := by
  have HM : Hid _ := miss_no V S N L M w h
  have HO : Hid (∀ w, Calls Try.prog 55 #[.int .i64 k] w fun e w' => e = .returned (.tuple #[.int .i64 0, .int .i64 1]) ∧ w' = w) := fun w => owner_no k w hk
  clear h
  go_enter Try.func60, Try.ntmps60
  go_wp2_with fail
  refine Calls.mono (Hid.out HM) ?_
  rintro e w1 ⟨rfl, hb⟩
  have HB1 : Hid (Below w.heap.size w w1) := hb
  clear hb
  go_wp2_with fail
  refine Calls.mono (HO.out _) ?_
  rintro e w' ⟨rfl, hw⟩
  obtain rfl := hw.symm
  go_wp2
  go_ret2
  exact ⟨rfl, HB1.out⟩

/-- What Owner answers of an owner's word. -/
def ownerOf (x : Int) : Value := if x = 0 then .tuple #[.int .i64 (-1), .int .i64 0] else if 24 < x then .tuple #[.int .i64 0, .int .i64 15] else .tuple #[.int .i64 (x - 1), .int .i64 0]
/-- With block k no file's. -/
def Vw.drop (S : Vw) (k : Int) : Vw := { S with own := upd S.own (200 + k) (some 0) }
set_option maxHeartbeats 1000000 in
theorem drop_yes (V : VLay) (S : Vw) (N : Nat) (L : Lay) (M : Mem) (k : Int) (w : World) (h : On w V S N L M) (hN : N < 800000000) (h0 : 0 ≤ k) (h1 : k < 96) (hx : S.word M (200 + k) ≠ 0) :
    Calls Try.prog 48 #[.pointer (some ⟨V.vb, 0, none⟩), .int .i64 k] w fun e w' => e = .returned (.int .i64 0) ∧ On w' V (S.drop k) (N + 1) L M ∧ Only V.blocks w w' := by
  have HM : Hid _ := ownerAt_yes V S N L M k w h h0 h1
  obtain ⟨x, hxe⟩ : ∃ x, S.word M (200 + k) = x := ⟨_, rfl⟩
  have HR : Hid (∀ w1, Below w.heap.size w w1 → Calls Try.prog 57 #[.pointer (some ⟨V.vb, 0, none⟩), .int .i64 (200 + k)] w1 fun e w' => e = .returned (.int .u64 x) ∧ w' = w1) := fun w1 hb => by
    rw [← hxe]; exact vread_any V S N L M (200 + k) w1 (h.later hb).view (h.later hb).mem h.mb (WalkArith.wf_i64 (by omega))
  rw [hxe] at hx
  have d0 : (x == 0) = false := by simpa using hx
  have H : Hid (On w V S N L M) := h
  clear h hxe hx
  go_enter Try.func48, Try.ntmps48
  go_wp2_with fail
  refine Calls.mono (Hid.out HM) ?_
  rintro e w1 ⟨rfl, hb⟩
  have HB1 : Hid (Below w.heap.size w w1) := hb
  have H1 : Hid (On w1 V S N L M) := H.out.later hb
  clear hb
  go_wp2_with fail
  refine Calls.mono (HR.out _ HB1.out) ?_
  rintro e w' ⟨rfl, hw⟩
  obtain rfl := hw.symm
  go_wp2_with fail
  refine (vwrite_yes V S N (200 + k) 0 _ H1.out.view (owner_open h0 h1) (by omega) (WalkArith.wf_i64 (by omega)) (WalkArith.wf_u64 (by omega))).mono ?_
  rintro e w2 ⟨rfl, hv2, ho2⟩
  have H2 : Hid (On w2 V (S.drop k) (N + 1) L M) := H1.out.step hv2 ho2 (by simp [VLay.all, VLay.blocks])
  have HO2 : Hid (Only V.blocks w w2) := (Only.of_below HB1.out).trans (only_blocks ho2 (by simp [VLay.blocks]))
  clear hv2 ho2
  go_wp2
  go_ret
  exact ⟨rfl, H2.out, HO2.out⟩
theorem drop_free (V : VLay) (S : Vw) (N : Nat) (L : Lay) (M : Mem) (k : Int) (w : World) (h : On w V S N L M) (h0 : 0 ≤ k) (h1 : k < 96) (hx : S.word M (200 + k) = 0) :
    Calls Try.prog 48 #[.pointer (some ⟨V.vb, 0, none⟩), .int .i64 k] w fun e w' => e = .returned (.int .i64 15) ∧ Below w.heap.size w w' := by
  have HM : Hid _ := ownerAt_yes V S N L M k w h h0 h1
  have HR : Hid (∀ w1, Below w.heap.size w w1 → Calls Try.prog 57 #[.pointer (some ⟨V.vb, 0, none⟩), .int .i64 (200 + k)] w1 fun e w' => e = .returned (.int .u64 0) ∧ w' = w1) := fun w1 hb => by
    rw [← hx]; exact vread_any V S N L M (200 + k) w1 (h.later hb).view (h.later hb).mem h.mb (WalkArith.wf_i64 (by omega))
  clear h hx
  go_enter Try.func48, Try.ntmps48
  go_wp2_with fail
  refine Calls.mono (Hid.out HM) ?_
  rintro e w1 ⟨rfl, hb⟩
  have HB1 : Hid (Below w.heap.size w w1) := hb
  clear hb
  go_wp2_with fail
  refine Calls.mono (HR.out _ HB1.out) ?_
  rintro e w' ⟨rfl, hw⟩
  obtain rfl := hw.symm
  go_wp2
  go_ret
  exact ⟨rfl, HB1.out⟩

/-- How many of the first n blocks are fresh. -/
def nFresh (S : Vw) (M : Mem) : Nat → Nat
  | 0 => 0
  | n + 1 => nFresh S M n + (if freshB S M (n : Int) = true then 1 else 0)
theorem nFresh_le (S : Vw) (M : Mem) (n : Nat) : nFresh S M n ≤ n := by
  induction n with
  | zero => exact Nat.le_refl 0
  | succ n ih => unfold nFresh; split <;> omega
set_option maxHeartbeats 1000000 in
theorem free_any (V : VLay) (S : Vw) (N : Nat) (L : Lay) (M : Mem) (w : World) (h : On w V S N L M) :
    Calls Try.prog 20 #[.pointer (some ⟨V.vb, 0, none⟩)] w fun e w' => e = .returned (.int .i64 (nFresh S M 96)) ∧ Below w.heap.size w w' := by
  have H : Hid (On w V S N L M) := h
  clear h
  go_enter Try.func20, Try.ntmps20
  go_wp2
  go_loopw [3, 4, 5] (fun c _ i wr => ∃ k : Nat, k ≤ 96 ∧ i = .int .i64 k ∧ c = .int .i64 (nFresh S M k) ∧ Hid (Below w.heap.size w wr)) (fun _ _ i _ => 96 - (intOf i).toNat)
  case atStart => exact ⟨0, by omega, rfl, rfl, Below.refl _ _⟩
  case round =>
    obtain ⟨k, hk, rfl, rfl, HB⟩ := hrel
    by_cases hlt : k < 96
    · have hb : (k : Int) < 96 := by omega
      have hle := nFresh_le S M k
      obtain ⟨f, hf⟩ : ∃ f, freshB S M (k : Int) = f := ⟨_, rfl⟩
      have HF : Hid (∀ w1, Below w.heap.size w w1 → Calls Try.prog 42 #[.pointer (some ⟨V.vb, 0, none⟩), .int .i64 k] w1 fun e w' => e = .returned (.bool f) ∧ w' = w1) := fun w1 hb => by
        rw [← hf]; exact vfresh_yes V S N L M k w1 (H.out.later hb).view (H.out.later hb).mem H.out.mb (by omega) (by omega)
      have HE : Hid (nFresh S M (k + 1) = nFresh S M k + (if f = true then 1 else 0)) := by
        rw [← hf]; exact (rfl : nFresh S M (k + 1) = _)
      obtain ⟨c, hc⟩ : ∃ c, nFresh S M k = c := ⟨_, rfl⟩
      rw [hc] at HE hle ⊢
      clear hf hc
      go_wp2_with fail
      refine Calls.mono (HF.out _ HB.out) ?_
      rintro e w' ⟨rfl, hw⟩
      obtain rfl := hw.symm
      cases f with
      | true =>
        go_wp2
        go_roundw
        case rel => exact ⟨k + 1, by omega, by go_num, by rw [HE.out]; go_num, HB.out⟩
        case measure => simp [intOf]; omega
      | false =>
        go_wp2
        go_roundw
        case rel => exact ⟨k + 1, by omega, by go_num, by rw [HE.out]; go_num, HB.out⟩
        case measure => simp [intOf]; omega
    · obtain rfl : k = 96 := by omega
      go_wp2
      go_ret
      exact ⟨rfl, HB.out⟩

end Go.Proofs.Ytdjnkibnnjobpaa

namespace Go.Proofs.Ytdjnkibnnjobpaa
open Go.RowKit Go.Maps Go.ChangeMaps

set_option maxHeartbeats 1000000 in
theorem take_no (V : VLay) (S : Vw) (N : Nat) (L : Lay) (M : Mem) (node : Int) (w : World) (_h : On w V S N L M) (hn : node < 0 ∨ 24 ≤ node) :
    Calls Try.prog 49 #[.pointer (some ⟨V.vb, 0, none⟩), .int .i64 node] w fun e w' => e = .returned (.tuple #[.int .i64 0, .int .i64 1]) ∧ w' = w := by
  have HC : Hid (∀ w, Calls Try.prog 47 #[.int .i64 node] w fun e w' => e = .returned (.tuple #[.int .i64 0, .int .i64 1]) ∧ w' = w) := fun w => card_no node w hn
  clear hn
  go_enter Try.func49, Try.ntmps49
  go_wp2_with (first
    | (go_at_call 47; refine Calls.mono (HC.out _) ?_; rintro e w' ⟨rfl, hw⟩; obtain rfl := hw.symm)
    | go_in)
  go_ret2
  exact ⟨rfl, rfl⟩

set_option maxHeartbeats 2000000 in
theorem take_yes (V : VLay) (S : Vw) (N : Nat) (L : Lay) (M : Mem) (node : Int) (q : Nat) (w : World) (h : On w V S N L M) (hN : N < 800000000) (n0 : 0 ≤ node) (n1 : node < 24) (hq : q < 96) (hf : freshB S M (q : Int) = true) (hl : ∀ j : Nat, j < q → freshB S M (j : Int) = false) :
    Calls Try.prog 49 #[.pointer (some ⟨V.vb, 0, none⟩), .int .i64 node] w fun e w' => e = .returned (.tuple #[.int .i64 q, .int .i64 0]) ∧ On w' V (S.give q node) (N + 17) L M ∧ Only V.blocks w w' := by
  have HC : Hid (∀ w, Calls Try.prog 47 #[.int .i64 node] w fun e w' => e = .returned (.tuple #[.int .i64 (8 + 8 * node), .int .i64 0]) ∧ w' = w) := fun w => card_at node w n0 n1
  have HM : Hid _ := miss_no V S N L M w h
  have HG : Hid (∀ w1, Below w.heap.size w w1 → Calls Try.prog 63 #[.pointer (some ⟨V.vb, 0, none⟩), .int .i64 q, .int .i64 node] w1 fun e w' => e = .returned (.tuple #[]) ∧ On w' V (S.give q node) (N + 17) L M ∧ Only V.blocks w1 w') := fun w1 hb =>
    give_any V S N L M q node w1 (h.later hb) hN (by omega) (by omega) n0 n1
  have HF : Hid (∀ (k : Nat) w1, k ≤ q → Below w.heap.size w w1 → Calls Try.prog 42 #[.pointer (some ⟨V.vb, 0, none⟩), .int .i64 k] w1 fun e w' => e = .returned (.bool (decide (k = q))) ∧ w' = w1) := fun k w1 hk hb => by
    have e : decide (k = q) = freshB S M (k : Int) := by
      by_cases hkq : k = q
      · subst hkq; rw [hf]; simp
      · rw [hl k (by omega)]; simpa using hkq
    rw [e]; exact vfresh_yes V S N L M k w1 (h.later hb).view (h.later hb).mem h.mb (by omega) (by omega)
  clear h hf hl
  go_enter Try.func49, Try.ntmps49
  go_wp2_with (first
    | (go_at_call 47; refine Calls.mono (HC.out _) ?_; rintro e w' ⟨rfl, hw⟩; obtain rfl := hw.symm)
    | (go_at_call 62; refine Calls.mono (Hid.out HM) ?_; rintro e w1 ⟨rfl, hb⟩; have HB1 : Hid (Below w.heap.size w w1) := hb; clear hb)
    | go_in)
  go_loopw [8, 20] (fun _ i wr => ∃ k : Nat, k ≤ q ∧ i = .int .i64 k ∧ Hid (Below w.heap.size w wr)) (fun _ i _ => 96 - (intOf i).toNat)
  case atStart => exact ⟨0, by omega, rfl, HB1.out⟩
  case round =>
    obtain ⟨k, hk, rfl, HB⟩ := hrel
    have hb : (k : Int) < 96 := by omega
    by_cases hlt : k = q
    · subst hlt
      have HFk : Hid (Calls Try.prog 42 #[.pointer (some ⟨V.vb, 0, none⟩), .int .i64 k] wr fun e w' => e = .returned (.bool true) ∧ w' = wr) := by
        have := HF.out k wr hk HB.out
        rw [decide_eq_true rfl] at this
        exact this
      go_wp2_with fail
      refine Calls.mono (Hid.out HFk) ?_
      rintro e w' ⟨rfl, hw⟩
      obtain rfl := hw.symm
      go_wp2_with fail
      refine Calls.mono (HG.out _ HB.out) ?_
      rintro e w2 ⟨rfl, ho, hx⟩
      have H2 : Hid (On w2 V (S.give k node) (N + 17) L M) := ho
      have HO2 : Hid (Only V.blocks w w2) := (Only.of_below HB.out).trans hx
      clear ho hx
      go_wp2
      go_ret2
      exact ⟨rfl, H2.out, HO2.out⟩
    · have HFk : Hid (Calls Try.prog 42 #[.pointer (some ⟨V.vb, 0, none⟩), .int .i64 k] wr fun e w' => e = .returned (.bool false) ∧ w' = wr) := by
        have := HF.out k wr hk HB.out
        rw [decide_eq_false hlt] at this
        exact this
      go_wp2_with fail
      refine Calls.mono (Hid.out HFk) ?_
      rintro e w' ⟨rfl, hw⟩
      obtain rfl := hw.symm
      go_wp2
      go_roundw
      case rel => exact ⟨k + 1, by omega, by go_num, HB.out⟩
      case measure => simp [intOf]; omega

set_option maxHeartbeats 2000000 in
theorem take_full (V : VLay) (S : Vw) (N : Nat) (L : Lay) (M : Mem) (node : Int) (w : World) (h : On w V S N L M) (n0 : 0 ≤ node) (n1 : node < 24) (hl : ∀ j : Nat, j < 96 → freshB S M (j : Int) = false) :
    Calls Try.prog 49 #[.pointer (some ⟨V.vb, 0, none⟩), .int .i64 node] w fun e w' => e = .returned (.tuple #[.int .i64 0, .int .i64 9]) ∧ Below w.heap.size w w' := by
  have HC : Hid (∀ w, Calls Try.prog 47 #[.int .i64 node] w fun e w' => e = .returned (.tuple #[.int .i64 (8 + 8 * node), .int .i64 0]) ∧ w' = w) := fun w => card_at node w n0 n1
  have HM : Hid _ := miss_no V S N L M w h
  have HF : Hid (∀ (k : Nat) w1, k < 96 → Below w.heap.size w w1 → Calls Try.prog 42 #[.pointer (some ⟨V.vb, 0, none⟩), .int .i64 k] w1 fun e w' => e = .returned (.bool false) ∧ w' = w1) := fun k w1 hk hb => by
    rw [← hl k hk]; exact vfresh_yes V S N L M k w1 (h.later hb).view (h.later hb).mem h.mb (by omega) (by omega)
  clear h hl
  go_enter Try.func49, Try.ntmps49
  go_wp2_with (first
    | (go_at_call 47; refine Calls.mono (HC.out _) ?_; rintro e w' ⟨rfl, hw⟩; obtain rfl := hw.symm)
    | (go_at_call 62; refine Calls.mono (Hid.out HM) ?_; rintro e w1 ⟨rfl, hb⟩; have HB1 : Hid (Below w.heap.size w w1) := hb; clear hb)
    | go_in)
  go_loopw [8, 20] (fun _ i wr => ∃ k : Nat, k ≤ 96 ∧ i = .int .i64 k ∧ Hid (Below w.heap.size w wr)) (fun _ i _ => 96 - (intOf i).toNat)
  case atStart => exact ⟨0, by omega, rfl, HB1.out⟩
  case round =>
    obtain ⟨k, hk, rfl, HB⟩ := hrel
    by_cases hlt : k < 96
    · have hb : (k : Int) < 96 := by omega
      go_wp2_with fail
      refine Calls.mono (HF.out k _ hlt HB.out) ?_
      rintro e w' ⟨rfl, hw⟩
      obtain rfl := hw.symm
      go_wp2
      go_roundw
      case rel => exact ⟨k + 1, by omega, by go_num, HB.out⟩
      case measure => simp [intOf]; omega
    · obtain rfl : k = 96 := by omega
      go_wp2
      go_ret2
      exact ⟨rfl, HB.out⟩

/-- Whether the card from a place on is a file's. -/
theorem Cd.getI_low (x : Int) (h0 : 0 ≤ x) : Cd.getI x 0 8 = x % 256 := by
  have := Cd.getI_div x 0 8 h0
  simpa using this
end Go.Proofs.Ytdjnkibnnjobpaa

namespace Go.Proofs.Ytdjnkibnnjobpaa
open Go.RowKit Go.Maps Go.ChangeMaps

/-- A change: a word's place, and what it is to be. -/
abbrev Chg := Int × Int
def chgVals (cs : List Chg) : List Value := cs.flatMap fun c => [.int .i64 c.1, .int .u64 c.2]
theorem chgVals_append (a b : List Chg) : chgVals (a ++ b) = chgVals a ++ chgVals b := by simp [chgVals]
theorem chgVals_len (a : List Chg) : (chgVals a).length = a.length * 2 := by
  induction a with
  | nil => rfl
  | cons x a ih => simp only [chgVals, List.flatMap_cons, List.length_append, List.length_cons, List.length_nil] at *; omega
theorem chgVals_one (x y : Int) : chgVals [(x, y)] = [.int .i64 x, .int .u64 y] := by simp [chgVals]
theorem chgVals_at (ss : List Chg) (i : Nat) (hi : i < ss.length) : (chgVals ss)[i * 2]? = some (.int .i64 (ss.getD i (0, 0)).1) ∧ (chgVals ss)[i * 2 + 1]? = some (.int .u64 (ss.getD i (0, 0)).2) := by
  induction ss generalizing i with
  | nil => simp at hi
  | cons s ss ih =>
    have e : chgVals (s :: ss) = [.int .i64 s.1, .int .u64 s.2] ++ chgVals ss := rfl
    cases i with
    | zero => rw [e]; simp
    | succ i =>
      have := ih i (by simpa using hi)
      rw [e, List.getElem?_append_right (by simp; omega), List.getElem?_append_right (by simp; omega)]
      have e1 : (i + 1) * 2 - 2 = i * 2 := by omega
      have e2 : (i + 1) * 2 + 1 - 2 = i * 2 + 1 := by omega
      simp only [List.length_cons, List.length_nil, Nat.zero_add, Nat.reduceAdd, e1, e2]
      simpa using this

/-- Changes lie at a slice's address. -/
def ChgsAt (w : World) (a : Option Addr) (cs : List Chg) : Prop := cs = [] ∨ ∃ b o, a = some ⟨b, o, none⟩ ∧ b < w.heap.size ∧ ∀ i, i < cs.length → w.cell? ⟨b, o + i * 2, none⟩ = some (.int .i64 (cs.getD i (0, 0)).1) ∧ w.cell? ⟨b, o + i * 2 + 1, none⟩ = some (.int .u64 (cs.getD i (0, 0)).2)
theorem ChgsAt.later {w w' : World} {a : Option Addr} {cs : List Chg} (h : ChgsAt w a cs) {B : Nat} (hB : w.heap.size ≤ B) (hb : Below B w w') : ChgsAt w' a cs := by
  rcases h with h | ⟨b, o, e, hlt, hc⟩
  · exact .inl h
  · exact .inr ⟨b, o, e, by have := hb.size; omega, fun i hi => ⟨(hb.cell (p := ⟨b, o + i * 2, none⟩) (by show b < B; omega)).trans (hc i hi).1, (hb.cell (p := ⟨b, o + i * 2 + 1, none⟩) (by show b < B; omega)).trans (hc i hi).2⟩⟩
theorem ChgsAt.only {w w' : World} {a : Option Addr} {cs : List Chg} {X : List Nat} (h : ChgsAt w a cs) (ho : Only X w w') (hX : ∀ b, a.map (·.block) = some b → b ∉ X) : ChgsAt w' a cs := by
  rcases h with h | ⟨b, o, rfl, hlt, hc⟩
  · exact .inl h
  · have hb := ho.block b hlt (hX b rfl)
    exact .inr ⟨b, o, rfl, by have := ho.size; omega, fun i hi => ⟨by rw [World.cell?_of_block (w := w) hb]; exact (hc i hi).1, by rw [World.cell?_of_block (w := w) hb]; exact (hc i hi).2⟩⟩

end Go.Proofs.Ytdjnkibnnjobpaa

namespace Go.Proofs.Ytdjnkibnnjobpaa
open Go.RowKit Go.Maps Go.ChangeMaps

theorem over_head : over (fun _ => 0) headN 0 8 = headN := by
  funext j
  unfold over
  by_cases h : j < 8
  · rw [if_pos ⟨by omega, by omega⟩]; rfl
  · rw [if_neg (by omega)]
    unfold headN
    rw [if_neg (by omega), if_neg (by omega)]
theorem headN_wf (i : Nat) : 0 ≤ headN i ∧ headN i ≤ 18446744073709551615 := by
  unfold headN
  split
  · omega
  · split <;> omega
/-- A word's place in an image of 2824 words. -/
theorem place_in (X : Int) (n : Int) (h0 : 0 < n) (h1 : n ≤ 100000) : ∃ q : Nat, (q : Int) < n ∧ wrap64 ((IntKind.u64.wrap X).tmod n) = (q : Int) ∧ IntKind.i64.wrap ((IntKind.u64.wrap X).tmod n) = (q : Int) := by
  have e : (IntKind.u64.wrap X).tmod n = (IntKind.u64.wrap X) % n := by
    rw [IntKind.wrap_u64, Int.tmod_eq_emod_of_nonneg (by omega)]
  have b0 := Int.emod_nonneg (IntKind.u64.wrap X) (show n ≠ 0 by omega)
  have b1 := Int.emod_lt_of_pos (IntKind.u64.wrap X) h0
  rw [e]
  refine ⟨((IntKind.u64.wrap X) % n).toNat, by omega, ?_, ?_⟩
  · unfold wrap64; omega
  · rw [IntKind.wrap_i64]; omega


set_option maxHeartbeats 2000000 in
set_option maxRecDepth 100000 in
theorem imageSp_any (a : Option Addr) (n c : Nat) (cs : List Chg) (w : World) (h : ChgsAt w a cs) (hn : cs.length = n) (hok : ∀ i, i < n → 0 ≤ (cs.getD i (0, 0)).2 ∧ (cs.getD i (0, 0)).2 ≤ 18446744073709551615) (hcw : ∀ i, i < n → (Lit.int .i64 (cs.getD i (0, 0)).1).wf = true) (hsz : n ≤ 9223372036854775807) :
    Calls Try.prog 7 #[.slice a n c] w fun e w' => ∃ G f, e = .returned (.slice (some ⟨G, 0, none⟩) 2824 2824) ∧ RowIs w' G f ∧ (∀ i, i < 2824 → 0 ≤ f i ∧ f i ≤ 18446744073709551615) ∧ (n = 0 → f = headN) ∧ w.heap.size ≤ G ∧ Below w.heap.size w w' := by
  have HC : Hid (ChgsAt w a cs) := h
  have HK : Hid (∀ i, i < n → 0 ≤ (cs.getD i (0, 0)).2 ∧ (cs.getD i (0, 0)).2 ≤ 18446744073709551615) := hok
  have HN : Hid (cs.length = n) := hn
  have HW : Hid (∀ i, i < n → (Lit.int .i64 (cs.getD i (0, 0)).1).wf = true) := hcw
  clear h hok hn hcw
  obtain ⟨i0, hi, hz0, hz1, hz2⟩ := info_parts Try.info22
  obtain ⟨L, hL⟩ : ∃ L : Nat, L = 2824 := ⟨_, rfl⟩
  have HL : Hid (L = 2824) := hL
  have hL1 : (100 : Int) ≤ (L : Int) := by omega
  have hL2 : (L : Int) ≤ 100000 := by omega
  clear hL
  have hho := head_own
  go_enter Try.func7, Try.ntmps7
  go_wp2_with (at_make; refine wpList_make_full _ rfl _ _ 30 rfl w.heap.size 23 i0 (.int .u64 0) 1 Try.underlying30 hi hz0 hz1 _ _ _ _ L rfl rfl ?l1 ?l2 ?b2 ?b3 (Nat.le_refl _) ?_)
  case l1 => have := HL.out; omega
  case l2 => have := HL.out; omega
  case b2 => rw [hz2]; omega
  case b3 => unfold maxLen; omega
  intro w2 hown hgrow
  have R2 : Hid (RowIs w2 w.heap.size (fun _ => 0)) := by
    have e := made_row hown
    rw [HL.out] at e
    exact e
  have B2 : Below w.heap.size w w2 := (Below.refl _ _).grown hgrow (Nat.le_refl _) (fun k h => by cases h)
  clear hown hgrow
  obtain ⟨G, hG⟩ : ∃ G, w.heap.size = G := ⟨_, rfl⟩
  have HG : Hid (w.heap.size = G) := hG
  rw [hG] at R2
  go_wp2_with fail
  refine (hho _).mono ?_
  rintro e w4 ⟨rfl, hcells, hb4, hsz4⟩
  have R4 : RowIs w4 G _ := R2.out.later (Nat.le_refl _) hb4
  have B4 : Below w.heap.size w w4 := B2.trans (hb4.mono B2.size)
  obtain ⟨w5, hrun5, R5, B5⟩ := run_copy w4 G 0 _ headN (some ⟨w2.heap.size, 0, none⟩) 8 8 L 8 R4 (.inr ⟨_, 0, rfl, hsz4, fun i hi => by rw [Nat.zero_add]; exact hcells.out i hi⟩) (by have := HL.out; omega) (by rw [HL.out]; rfl) w.heap.size w B4 (by omega)
  have R5' : Hid (RowIs w5 G headN) := by have := R5.out; rw [over_head] at this; exact this
  clear hcells R4 R5
  have HB5 : Hid (Below w.heap.size w w5) := B5
  clear B5
  rw [hG]
  clear hG
  go_wp2
  go_loopw [4] (fun i wr => ∃ (k : Nat) (f : Nat → Int), k ≤ n ∧ k ≤ 100 ∧ i = .int .i64 k ∧ Hid (RowIs wr G f ∧ (∀ i, i < 2824 → 0 ≤ f i ∧ f i ≤ 18446744073709551615) ∧ (k = 0 → f = headN) ∧ Below w.heap.size w wr)) (fun i _ => 100 - (intOf i).toNat)
  case atStart => exact ⟨0, headN, Nat.zero_le _, by omega, rfl, ⟨R5'.out, fun i _ => headN_wf i, fun _ => rfl, HB5.out⟩⟩
  case round =>
    obtain ⟨k, f, hk, hk60, rfl, HR⟩ := hrel
    by_cases hlt : k < n
    · have hb : (k : Int) < (n : Int) := by omega
      by_cases h60 : k < 100
      · have hb60 : (k : Int) < 100 := by omega
        obtain ⟨b, o, rfl, hbl, hc⟩ := HC.out.resolve_left (fun e => by have := HN.out; rw [e] at this; simp at this; omega)
        have x1 := (HR.out.2.2.2.cell (p := ⟨b, o + k * 2, none⟩) hbl).trans (hc k (by have := HN.out; omega)).1
        have x2 := (HR.out.2.2.2.cell (p := ⟨b, o + k * 2 + 1, none⟩) hbl).trans (hc k (by have := HN.out; omega)).2
        have hy := HK.out k hlt
        obtain ⟨X, hX⟩ : ∃ X, (cs.getD k (0, 0)).1 = X := ⟨_, rfl⟩
        obtain ⟨Y, hY⟩ : ∃ Y, (cs.getD k (0, 0)).2 = Y := ⟨_, rfl⟩
        rw [hX] at x1
        rw [hY] at x2 hy
        have HY : Hid (0 ≤ Y ∧ Y ≤ 18446744073709551615) := hy
        clear hX hY hc hy
        obtain ⟨q, hqL, hqe1, hqe2⟩ := place_in X (L : Int) (by omega) hL2
        have hq : q < 2824 := by have := HL.out; omega
        have hlw : IntKind.u64.wrap (L : Int) = (L : Int) := by rw [IntKind.wrap_u64]; omega
        have hl0 : ¬ (L : Int) = 0 := by omega
        have x3 : wr.cell? ⟨G, q, none⟩ = some (.int .u64 (f q)) := HR.out.1.cell q hq
        have fz : wr.frozen? ⟨G, q, none⟩ = false := HR.out.1.frozen q
        have HQ : Hid (q < 2824) := hq
        clear hq
        go_wp2
        go_region
        all_goals
          go_wp2
          go_roundw
          case rel =>
            refine ⟨k + 1, updN f q Y, by omega, by omega, by go_num, ⟨?_, fun i hi => ?_, fun e => by omega, ?_⟩⟩
            · first
                | exact HR.out.1.set q Y
                | exact (show RowIs _ _ _ from HR.out.1).set q Y
            · unfold updN
              split
              · exact HY.out
              · exact HR.out.2.1 i hi
            · exact (HR.out.2.2.2.drew).setCell (p := ⟨G, q, none⟩) (by rw [← HG.out]; exact Nat.le_refl _) _
          case measure => simp [intOf]; omega
      · obtain rfl : k = 100 := by omega
        go_wp2
        go_ret
        have hl := HL.out
        subst hl
        obtain ⟨r1, r2, r3, r4⟩ := HR.out
        exact ⟨G, f, rfl, r1, r2, fun e => by omega, by rw [HG.out]; exact Nat.le_refl _, r4⟩
    · obtain rfl : k = n := by omega
      go_wp2
      go_ret
      have hl := HL.out
      subst hl
      obtain ⟨r1, r2, r3, r4⟩ := HR.out
      exact ⟨G, f, rfl, r1, r2, r3, by rw [HG.out]; exact Nat.le_refl _, r4⟩


/-- An image as a list of words. -/
def imgL (g : Nat → Int) : List Int := (List.range 2824).map g
theorem imgL_len (g : Nat → Int) : (imgL g).length = 2824 := by unfold imgL; rw [List.length_map, List.length_range]
theorem imgL_at (g : Nat → Int) (i : Nat) (hi : i < 2824) : (imgL g).getD i 0 = g i := by
  unfold imgL
  simp [List.getD, hi]
theorem fresh_sure (xs : List Int) : (fresh xs).sure = xs := rfl
theorem fresh_loose (xs : List Int) (k : Int) : (fresh xs).loose k = none := rfl
theorem fresh_read (g : Nat → Int) (i : Nat) (hi : i < 2824) : (fresh (imgL g)).read (i : Int) = g i := by
  have h : (fresh (imgL g)).has (i : Int) = true := by
    unfold Mem.has fresh
    simp only [imgL_len, Bool.and_eq_true, decide_eq_true_eq]
    omega
  unfold Mem.read
  rw [if_pos h]
  have e1 : (fresh (imgL g)).loose (i : Int) = none := fresh_loose _ _
  have e2 : (fresh (imgL g)).sure = imgL g := fresh_sure _
  rw [e1, e2, Option.getD_none, Int.toNat_natCast, imgL_at g i hi]
/-- Load of a row of 2824 words. -/
theorem load_img (G : Nat) (g : Nat → Int) (w : World) (h : RowIs w G g) (hg : ∀ i, i < 2824 → 0 ≤ g i ∧ g i ≤ 18446744073709551615) :
    Calls Try.prog 9 #[.slice (some ⟨G, 0, none⟩) 2824 2824] w fun e w' => ∃ L : Lay, e = .returned (.pointer (some ⟨L.mb, 0, none⟩)) ∧ MemIs w' L (fresh (imgL g)) ∧ (∀ j ∈ L.blocks, w.heap.size ≤ j) ∧ Below w.heap.size w w' := by
  have := load_any G 0 2824 (imgL g) w (by rw [imgL_len]; omega) (by rw [imgL_len]; omega) (fun v hv => by
    unfold imgL at hv
    obtain ⟨i, hi, rfl⟩ := List.mem_map.1 hv
    exact WalkArith.wf_u64 (hg i (List.mem_range.1 hi))) (fun i hi => by
    rw [imgL_len] at hi
    rw [Nat.zero_add, imgL_at g i hi]; exact h.cell i hi)
  rw [imgL_len] at this
  exact this
theorem image_nil (w : World) :
    Calls Try.prog 7 #[.slice none 0 0] w fun e w' => ∃ G, e = .returned (.slice (some ⟨G, 0, none⟩) 2824 2824) ∧ RowIs w' G headN ∧ w.heap.size ≤ G ∧ Below w.heap.size w w' := by
  refine (imageSp_any none 0 0 [] w (.inl rfl) rfl (fun i hi => by omega) (fun i hi => by omega) (by omega)).mono ?_
  rintro e w' ⟨G, f, rfl, h1, _, h3, h4, h5⟩
  have := h3 rfl
  subst this
  exact ⟨G, rfl, h1, h4, h5⟩

/-- A memory as it is made, of the plan's words. -/
def M0 : Mem := fresh (imgL headN)
theorem M0_sure : M0.sure = imgL headN := by unfold M0; exact fresh_sure _
theorem M0_len : M0.sure.length = 2824 := by rw [M0_sure]; exact imgL_len headN
theorem M0_read (i : Nat) (hi : i < 2824) (h2 : 2 ≤ i) : M0.read (i : Int) = 0 := by
  unfold M0
  rw [fresh_read headN i hi]
  unfold headN
  rw [if_neg (by omega), if_neg (by omega)]

end Go.Proofs.Ytdjnkibnnjobpaa

namespace Go.Proofs.Ytdjnkibnnjobpaa
open Go.RowKit Go.Maps Go.ChangeMaps

theorem word_row {S : Vw} {M : Mem} {own : Int → Option Int} {a : Int} {f : Nat → Int} {n : Nat} (h : S.own = rowOwn own a f n) (i : Nat) (hi : i < n) : S.word M (a + (i : Int)) = f i := by
  unfold Vw.word
  rw [h]
  unfold rowOwn
  rw [if_pos (by omega), Option.getD_some]
  congr 1
  omega
theorem word_row_out {S S0 : Vw} {M : Mem} {a : Int} {f : Nat → Int} {n : Nat} (h : S.own = rowOwn S0.own a f n) (j : Int) (hj : j < a ∨ a + (n : Int) ≤ j) : S.word M j = S0.word M j := by
  unfold Vw.word
  rw [h]
  unfold rowOwn
  rw [if_neg (by omega)]
theorem upd_word {S S0 : Vw} {M : Mem} {k x : Int} (h : S.own = upd S0.own k (some x)) (j : Int) : S.word M j = if j = k then x else S0.word M j := by
  unfold Vw.word
  rw [h]
  unfold upd
  by_cases e : j = k
  · subst e; simp
  · simp [e]
theorem give_word (S : Vw) (M : Mem) (k node j : Int) (h0 : 0 ≤ k) (h1 : k < 96) (hj : j < 1288) : (S.give k node).word M j = if j = 200 + k then node + 1 else S.word M j := by
  have e1 : (S.give k node).word M j = ({ S with own := upd S.own (200 + k) (some (node + 1)) } : Vw).word M j := word_row_out (S0 := { S with own := upd S.own (200 + k) (some (node + 1)) }) (a := 1288 + 16 * k) (f := fun _ => 0) (n := 16) rfl j (by omega)
  rw [e1]
  exact upd_word rfl j
theorem drop_word (S : Vw) (M : Mem) (k j : Int) : (S.drop k).word M j = if j = 200 + k then 0 else S.word M j := upd_word rfl j
theorem freshB_eq {S : Vw} {M : Mem} {k : Int} (h0 : 0 ≤ k) (h1 : k < 96) : freshB S M k = (decide (M.read (200 + k) = 0) && decide (S.word M (200 + k) = 0) && !S.away k) := by simp [freshB, h0, h1]
theorem give_fresh (S : Vw) (M : Mem) (k node j : Int) (h0 : 0 ≤ k) (h1 : k < 96) (hn : 0 ≤ node) (j0 : 0 ≤ j) (j1 : j < 96) : freshB (S.give k node) M j = (freshB S M j && !decide (j = k)) := by
  rw [freshB_eq j0 j1, freshB_eq j0 j1, give_word S M k node (200 + j) h0 h1 (by omega)]
  by_cases e : j = k
  · subst e
    have : ¬ node + 1 = 0 := by omega
    simp [this]
  · have : ¬ (200 : Int) + j = 200 + k := by omega
    simp only [this, if_false, e, decide_false, Bool.not_false, Bool.and_true]
    rfl
theorem drop_fresh (S : Vw) (M : Mem) (k j : Int) (j0 : 0 ≤ j) (j1 : j < 96) : freshB (S.drop k) M j = if j = k then (decide (M.read (200 + k) = 0) && !S.away k) else freshB S M j := by
  rw [freshB_eq j0 j1, freshB_eq j0 j1, drop_word]
  by_cases e : j = k
  · subst e
    simp [Vw.drop]
  · have : ¬ (200 : Int) + j = 200 + k := by omega
    simp only [this, if_false, e]
    rfl
theorem nFresh_congr {S S' : Vw} {M : Mem} (n : Nat) (h : ∀ j : Nat, j < n → freshB S' M (j : Int) = freshB S M (j : Int)) : nFresh S' M n = nFresh S M n := by
  induction n with
  | zero => rfl
  | succ n ih =>
    unfold nFresh
    rw [h n (by omega), ih fun j hj => h j (by omega)]
/-- One less, where one that was fresh isn't. -/
theorem nFresh_less {S S' : Vw} {M : Mem} (n k : Nat) (hk : freshB S M (k : Int) = true) (h : ∀ j : Nat, j < n → freshB S' M (j : Int) = (freshB S M (j : Int) && !decide ((j : Int) = (k : Int)))) : nFresh S M n = nFresh S' M n + (if k < n then 1 else 0) := by
  induction n with
  | zero => rfl
  | succ n ih =>
    unfold nFresh
    rw [h n (by omega), ih fun j hj => h j (by omega)]
    by_cases e : n = k
    · subst e
      rw [hk]
      simp
    · have e2 : ¬ ((n : Int) = (k : Int)) := by omega
      have e3 : (k < n + 1) = (k < n) := by apply propext; omega
      simp only [e2, decide_false, Bool.not_false, Bool.and_true, e3]
      omega
/-- The lowest of these that is so, if there is one. -/
theorem first_or (p : Nat → Bool) (a n : Nat) : (∃ q, a ≤ q ∧ q < a + n ∧ p q = true ∧ ∀ j, a ≤ j → j < q → p j = false) ∨ ∀ j, a ≤ j → j < a + n → p j = false := by
  induction n with
  | zero => exact .inr fun j h1 h2 => by omega
  | succ n ih =>
    rcases ih with ⟨q, h1, h2, h3, h4⟩ | h
    · exact .inl ⟨q, h1, by omega, h3, h4⟩
    · cases hp : p (a + n) with
      | true => exact .inl ⟨a + n, by omega, by omega, hp, fun j h1 h2 => h j h1 h2⟩
      | false =>
        refine .inr fun j h1 h2 => ?_
        by_cases e : j = a + n
        · subst e; exact hp
        · exact h j h1 (by omega)

/-- A view in a world that began as w0. -/
structure Ses (w0 w : World) (V : VLay) (S : Vw) (N : Nat) (L : Lay) (M : Mem) : Prop where
  on : On w V S N L M
  bel : Below w0.heap.size w0 w
  low : ∀ j ∈ V.all, w0.heap.size ≤ j
section
variable {w0 w w1 : World} {V : VLay} {S S1 : Vw} {N N1 : Nat} {L : Lay} {M : Mem}
theorem Ses.step (h : Ses w0 w V S N L M) (hv : On w1 V S1 N1 L M) (ho : Only V.blocks w w1) : Ses w0 w1 V S1 N1 L M :=
  ⟨hv, h.bel.trans (ho.below h.bel.size fun k hk => h.low k (V.blocks_all k hk)), h.low⟩
theorem Ses.later (h : Ses w0 w V S N L M) (hb : Below w.heap.size w w1) : Ses w0 w1 V S N L M := ⟨h.on.later hb, h.bel.trans (hb.mono h.bel.size), h.low⟩
theorem Ses.mono (h : Ses w0 w V S N L M) (hn : N ≤ N1) : Ses w0 w V S N1 L M := ⟨h.on.mono hn, h.bel, h.low⟩
end
theorem newLay_all {mb G B : Nat} : (∀ j ∈ (newLay mb G).all, B ≤ j) ↔ B ≤ G := by
  simp only [newLay, VLay.all, VLay.blocks, List.mem_append, List.mem_cons, List.not_mem_nil, or_false, Option.toList_none]
  constructor
  · intro h; exact h G (by simp)
  · intro h j hj
    omega
theorem begin_ses {w w1 w2 w3 : World} {L : Lay} {M : Mem} (h1 : Below w.heap.size w w1) (hm2 : MemIs w2 L M) (hb2 : Below w1.heap.size w1 w2) (hv3 : ViewIs w3 (newLay L.mb w2.heap.size) Vw.new 0) (hb3 : Below w2.heap.size w2 w3) : Ses w w3 (newLay L.mb w2.heap.size) Vw.new 0 L M := by
  have s1 := h1.size
  have s2 := hb2.size
  have B2 : Below w.heap.size w w2 := h1.trans (hb2.mono s1)
  refine ⟨⟨hv3, hm2.later hb3, rfl, fun b hb hb2 => ?_⟩, B2.trans (hb3.mono B2.size), newLay_all.2 (by omega)⟩
  have q1 := hm2.all_lt b hb
  have q3 : w2.heap.size ≤ b := (newLay_all (mb := L.mb) (B := w2.heap.size)).2 (Nat.le_refl _) b hb2
  omega

theorem M0_zero (j : Int) (h0 : 2 ≤ j) (h1 : j < 2824) : M0.read j = 0 := by
  have := M0_read j.toNat (by omega) (by omega)
  rwa [Int.toNat_of_nonneg (by omega)] at this

end Go.Proofs.Ytdjnkibnnjobpaa
