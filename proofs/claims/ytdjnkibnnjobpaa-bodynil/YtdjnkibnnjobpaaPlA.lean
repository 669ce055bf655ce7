/- Contracts of What, Open and Size of the plan, for every number. -/
import Derived.Test.YtdjnkibnnjobpaaMOps
import Derived.WalkKit
import Derived.WalkLawsBesides
namespace Go.Proofs.Ytdjnkibnnjobpaa
open Go.RowKit

theorem ret_two {k l : IntKind} {a b c d : Int} (h : a = b) (h' : c = d) : Ending.returned (.tuple #[.int k a, .int l c]) = .returned (.tuple #[.int k b, .int l d]) := by rw [h, h']

/-- The kind of a word, as a number. -/
def kindI (a : Int) : Int := if a < 0 then 0 else if 2824 ≤ a then 0 else if a < 8 then 1 else if a < 200 then 2 else if a < 296 then 3 else if a < 1288 then 4 else 5

/-- Which thing of that kind. -/
def numI (a : Int) : Int := if a < 0 then 0 else if 2824 ≤ a then 0 else if a < 8 then 0 else if a < 200 then (a - 8) / 8 else if a < 296 then a - 200 else if a < 1288 then (a - 296) / 248 else (a - 1288) / 16

theorem ki_neg {a : Int} (h : a < 0) : kindI a = 0 ∧ numI a = 0 := by unfold kindI numI; simp [h]

theorem ki_far {a : Int} (h : 2824 ≤ a) : kindI a = 0 ∧ numI a = 0 := by
  have e : ¬ a < 0 := by omega
  unfold kindI numI; simp [h, e]

theorem ki_head {a : Int} (h0 : 0 ≤ a) (h : a < 8) : kindI a = 1 ∧ numI a = 0 := by
  have e0 : ¬ a < 0 := by omega
  have e1 : ¬ 2824 ≤ a := by omega
  unfold kindI numI; simp [h, e0, e1]

theorem ki_card {a : Int} (h0 : 8 ≤ a) (h : a < 200) : kindI a = 2 ∧ numI a = (a - 8) / 8 := by
  have e0 : ¬ a < 0 := by omega
  have e1 : ¬ 2824 ≤ a := by omega
  have e2 : ¬ a < 8 := by omega
  unfold kindI numI; simp [h, e0, e1, e2]

theorem ki_owner {a : Int} (h0 : 200 ≤ a) (h : a < 296) : kindI a = 3 ∧ numI a = a - 200 := by
  have e0 : ¬ a < 0 := by omega
  have e1 : ¬ 2824 ≤ a := by omega
  have e2 : ¬ a < 8 := by omega
  have e3 : ¬ a < 200 := by omega
  unfold kindI numI; simp [h, e0, e1, e2, e3]

theorem ki_log {a : Int} (h0 : 296 ≤ a) (h : a < 1288) : kindI a = 4 ∧ numI a = (a - 296) / 248 := by
  have e0 : ¬ a < 0 := by omega
  have e1 : ¬ 2824 ≤ a := by omega
  have e2 : ¬ a < 8 := by omega
  have e3 : ¬ a < 200 := by omega
  have e4 : ¬ a < 296 := by omega
  unfold kindI numI; simp [h, e0, e1, e2, e3, e4]

theorem ki_data {a : Int} (h0 : 1288 ≤ a) (h : a < 2824) : kindI a = 5 ∧ numI a = (a - 1288) / 16 := by
  have e0 : ¬ a < 0 := by omega
  have e1 : ¬ 2824 ≤ a := by omega
  have e2 : ¬ a < 8 := by omega
  have e3 : ¬ a < 200 := by omega
  have e4 : ¬ a < 296 := by omega
  have e5 : ¬ a < 1288 := by omega
  unfold kindI numI; simp [e0, e1, e2, e3, e4, e5]

/-- The seven places a word may have. -/
theorem places (a : Int) : a < 0 ∨ 2824 ≤ a ∨ (0 ≤ a ∧ a < 8) ∨ (8 ≤ a ∧ a < 200) ∨ (200 ≤ a ∧ a < 296) ∨ (296 ≤ a ∧ a < 1288) ∨ (1288 ≤ a ∧ a < 2824) := by omega

set_option maxHeartbeats 1000000 in
theorem what_any (a : Int) (w : World) :
    Calls Try.prog 75 #[.int .i64 a] w fun e w' => e = .returned (.tuple #[.int .i64 (kindI a), .int .i64 (numI a)]) ∧ w' = w := by
  rcases places a with h | h | ⟨h, h'⟩ | ⟨h, h'⟩ | ⟨h, h'⟩ | ⟨h, h'⟩ | ⟨h, h'⟩
  · rw [(ki_neg h).1, (ki_neg h).2]
    go_enter Try.func75, Try.ntmps75
    go_wp2
    go_ret2
    exact ⟨rfl, rfl⟩
  · have g : ¬ a < 0 := by omega
    rw [(ki_far h).1, (ki_far h).2]
    go_enter Try.func75, Try.ntmps75
    go_wp2
    go_ret2
    exact ⟨rfl, rfl⟩
  · rw [(ki_head h h').1, (ki_head h h').2]
    go_enter Try.func75, Try.ntmps75
    go_wp2
    go_ret2
    exact ⟨rfl, rfl⟩
  · rw [(ki_card h h').1, (ki_card h h').2]
    go_enter Try.func75, Try.ntmps75
    go_wp2
    go_ret2
    exact ⟨rfl, rfl⟩
  · rw [(ki_owner h h').1, (ki_owner h h').2]
    go_enter Try.func75, Try.ntmps75
    go_wp2
    go_ret2
    exact ⟨rfl, rfl⟩
  · rw [(ki_log h h').1, (ki_log h h').2]
    go_enter Try.func75, Try.ntmps75
    go_wp2
    go_ret2
    exact ⟨rfl, rfl⟩
  · rw [(ki_data h h').1, (ki_data h h').2]
    go_enter Try.func75, Try.ntmps75
    go_wp2
    go_ret2
    exact ⟨rfl, rfl⟩

/-- May a change name the word? -/
def openB (a : Int) : Bool := kindI a == 2 || kindI a == 3 || kindI a == 5

theorem kind_cases (a : Int) : kindI a = 0 ∨ kindI a = 1 ∨ kindI a = 2 ∨ kindI a = 3 ∨ kindI a = 4 ∨ kindI a = 5 := by
  rcases places a with h | h | ⟨h, h'⟩ | ⟨h, h'⟩ | ⟨h, h'⟩ | ⟨h, h'⟩ | ⟨h, h'⟩
  · exact .inl (ki_neg h).1
  · exact .inl (ki_far h).1
  · exact .inr (.inl (ki_head h h').1)
  · exact .inr (.inr (.inl (ki_card h h').1))
  · exact .inr (.inr (.inr (.inl (ki_owner h h').1)))
  · exact .inr (.inr (.inr (.inr (.inl (ki_log h h').1))))
  · exact .inr (.inr (.inr (.inr (.inr (ki_data h h').1))))

set_option maxHeartbeats 1000000 in
theorem open_any (a : Int) (w : World) :
    Calls Try.prog 70 #[.int .i64 a] w fun e w' => e = .returned (.bool (openB a)) ∧ w' = w := by
  obtain ⟨b, hb⟩ : ∃ b, openB a = b := ⟨_, rfl⟩
  have HB : Hid (openB a = b) := hb
  rw [hb]
  clear hb
  have H : Hid (Calls Try.prog 75 #[.int .i64 a] w fun e w' => e = .returned (.tuple #[.int .i64 (kindI a), .int .i64 (numI a)]) ∧ w' = w) := what_any a w
  rcases kind_cases a with h | h | h | h | h | h
  · rw [h] at H
    have HB' : Hid (false = b) := by rw [← HB.out]; unfold openB; rw [h]; rfl
    clear h HB
    go_enter Try.func70, Try.ntmps70
    go_wp2_with fail
    refine Calls.mono (Hid.out H) ?_
    rintro e w' ⟨rfl, rfl⟩
    go_wp2
    go_ret
    exact ⟨ret_bool HB'.out, rfl⟩
  · rw [h] at H
    have HB' : Hid (false = b) := by rw [← HB.out]; unfold openB; rw [h]; rfl
    clear h HB
    go_enter Try.func70, Try.ntmps70
    go_wp2_with fail
    refine Calls.mono (Hid.out H) ?_
    rintro e w' ⟨rfl, rfl⟩
    go_wp2
    go_ret
    exact ⟨ret_bool HB'.out, rfl⟩
  · rw [h] at H
    have HB' : Hid (true = b) := by rw [← HB.out]; unfold openB; rw [h]; rfl
    clear h HB
    go_enter Try.func70, Try.ntmps70
    go_wp2_with fail
    refine Calls.mono (Hid.out H) ?_
    rintro e w' ⟨rfl, rfl⟩
    go_wp2
    go_ret
    exact ⟨ret_bool HB'.out, rfl⟩
  · rw [h] at H
    have HB' : Hid (true = b) := by rw [← HB.out]; unfold openB; rw [h]; rfl
    clear h HB
    go_enter Try.func70, Try.ntmps70
    go_wp2_with fail
    refine Calls.mono (Hid.out H) ?_
    rintro e w' ⟨rfl, rfl⟩
    go_wp2
    go_ret
    exact ⟨ret_bool HB'.out, rfl⟩
  · rw [h] at H
    have HB' : Hid (false = b) := by rw [← HB.out]; unfold openB; rw [h]; rfl
    clear h HB
    go_enter Try.func70, Try.ntmps70
    go_wp2_with fail
    refine Calls.mono (Hid.out H) ?_
    rintro e w' ⟨rfl, rfl⟩
    go_wp2
    go_ret
    exact ⟨ret_bool HB'.out, rfl⟩
  · rw [h] at H
    have HB' : Hid (true = b) := by rw [← HB.out]; unfold openB; rw [h]; rfl
    clear h HB
    go_enter Try.func70, Try.ntmps70
    go_wp2_with fail
    refine Calls.mono (Hid.out H) ?_
    rintro e w' ⟨rfl, rfl⟩
    go_wp2
    go_ret
    exact ⟨ret_bool HB'.out, rfl⟩

theorem planSize_any (w : World) : Calls Try.prog 25 #[] w fun e w' => e = .returned (.int .i64 2824) ∧ w' = w := by
  go_enter Try.func25, Try.ntmps25
  go_wp2
  go_ret
  exact ⟨rfl, rfl⟩

/-- The head's words. -/
def headN (i : Nat) : Int := if i = 0 then 7021221306412823411 else if i = 1 then 2824 else 0

def headRow : Array Value := #[.int .u64 7021221306412823411, .int .u64 2824, .int .u64 0, .int .u64 0, .int .u64 0, .int .u64 0, .int .u64 0, .int .u64 0]

theorem head_any (w : World) :
    Calls Try.prog 23 #[] w fun e w' => e = .returned (.slice (some ⟨w.heap.size, 0, none⟩) 8 8) ∧ w' = w.alloc (.cells headRow 23) := by
  have hmk : ∀ w : World, (Instr.makeSlice 30 (.int .i64 8) (.int .i64 8)).run Try.prog w = .ok (.slice (some ⟨w.heap.size, 0, none⟩) 8 8) (w.alloc (.cells #[.int .u64 0, .int .u64 0, .int .u64 0, .int .u64 0, .int .u64 0, .int .u64 0, .int .u64 0, .int .u64 0] 23)) := fun _ => by kernel_rfl
  go_enter Try.func23, Try.ntmps23
  go_wp2
  go_ret
  exact ⟨rfl, rfl⟩

theorem head_cells (w : World) (i : Nat) (h : i < 8) : (w.alloc (.cells headRow 23)).cell? ⟨w.heap.size, i, none⟩ = some (.int .u64 (headN i)) := by
  rw [World.cell?_alloc_at _ _ _ _ rfl]
  match i, h with
  | 0, _ => rfl
  | 1, _ => rfl
  | 2, _ => rfl
  | 3, _ => rfl
  | 4, _ => rfl
  | 5, _ => rfl
  | 6, _ => rfl
  | 7, _ => rfl

theorem head_own (w : World) :
    Calls Try.prog 23 #[] w fun e w' => e = .returned (.slice (some ⟨w.heap.size, 0, none⟩) 8 8) ∧ Hid (∀ i, i < 8 → w'.cell? ⟨w.heap.size, i, none⟩ = some (.int .u64 (headN i))) ∧ Below w.heap.size w w' ∧ w.heap.size < w'.heap.size := by
  refine (head_any w).mono ?_
  rintro e w' ⟨rfl, rfl⟩
  exact ⟨rfl, fun i h => head_cells w i h, (Below.refl _ _).alloc (Nat.le_refl _) _, by rw [World.size_alloc]; omega⟩

/-- Words at a slice's address. -/
def UAt (w : World) (a : Option Addr) (n : Nat) (f : Nat → Int) : Prop := n = 0 ∨ ∃ b o, a = some ⟨b, o, none⟩ ∧ b < w.heap.size ∧ ∀ i, i < n → w.cell? ⟨b, o + i, none⟩ = some (.int .u64 (f i))

theorem UAt.later {w w' : World} {a : Option Addr} {n : Nat} {f : Nat → Int} (h : UAt w a n f) {B : Nat} (hB : w.heap.size ≤ B) (hb : Below B w w') : UAt w' a n f := by
  rcases h with h | ⟨b, o, e, hlt, hc⟩
  · exact .inl h
  · exact .inr ⟨b, o, e, by have := hb.size; omega, fun i hi => (hb.cell (p := ⟨b, o + i, none⟩) (by show b < B; omega)).trans (hc i hi)⟩

end Go.Proofs.Ytdjnkibnnjobpaa
