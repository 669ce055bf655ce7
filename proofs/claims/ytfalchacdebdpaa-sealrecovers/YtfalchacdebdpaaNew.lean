/- What makes a memory of words. -/
import Derived.Test.YtfalchacdebdpaaImage
namespace Go.Proofs.Ytfalchacdebdpaa
open Go.RowKit Go.Maps Go.ChangeMaps

theorem madeMap (w : World) : MapIs (w.alloc (.map #[] 0)) w.heap.size 0 (fun _ => none) := ⟨_, World.ownsMap_made w _ _ _, reads_empty⟩

/-- The world in which 'of' has made a memory. -/
def ofWorld (w : World) (sp : Option Addr) (n cap : Nat) : World :=
  ((w.alloc (.map #[] 0)).alloc (.map #[] 0)).alloc (.cells #[.slice sp n cap, .map (some w.heap.size), .map (some (w.heap.size + 1)), .int .i64 0, .bool false, .int .i64 0] 89)

theorem heap_alloc_at (w : World) (o : Obj) : (w.alloc o).heap[w.heap.size]? = some o := heap_alloc_new w o

theorem ofWorld_below (w : World) (sp : Option Addr) (n cap : Nat) : Below w.heap.size w (ofWorld w sp n cap) := by
  unfold ofWorld
  exact (((Below.refl _ _).alloc (Nat.le_refl _) _).alloc (by simp) _).alloc (by simp; omega) _

theorem ofWorld_is (w : World) (sp : Option Addr) (cap : Nat) (xs : List Int) (sb : Nat) (hrow : w.ownsRow 0 22 1 (.slice sp xs.length cap) xs.length (xs.map (Value.int .u64)))
    (hplace : sp = none ∧ sb = w.heap.size + 2 ∨ sp = some ⟨sb, 0, none⟩) (hlen : xs.length ≤ 4096) (hwords : ∀ v ∈ xs, (Lit.int .u64 v).wf = true) :
    MemIs (ofWorld w sp xs.length cap) ⟨w.heap.size + 2, sb, cap, w.heap.size, w.heap.size + 1, sp⟩ (fresh xs) where
  obj := by
    have h1 : ((w.alloc (.map #[] 0)).alloc (.map #[] 0)).heap.size = w.heap.size + 2 := by simp
    have h2 := heap_alloc_at ((w.alloc (.map #[] 0)).alloc (.map #[] 0)) (.cells #[.slice sp xs.length cap, .map (some w.heap.size), .map (some (w.heap.size + 1)), .int .i64 0, .bool false, .int .i64 0] 89)
    rw [h1] at h2
    exact h2
  row := ownsRow_of_block hrow fun g hg => (ofWorld_below w sp xs.length cap).block g (hrow.lt g hg).2
  place := hplace
  loose := (madeMap w).of_block (by
    unfold ofWorld
    rw [Below.heap_alloc _ _ _ (by simp; omega), Below.heap_alloc _ _ _ (by simp)])
  way := by
    have h1 : (w.alloc (.map #[] 0)).heap.size = w.heap.size + 1 := by simp
    have h2 := madeMap (w.alloc (.map #[] 0))
    rw [h1] at h2
    exact h2.of_block (by unfold ofWorld; rw [Below.heap_alloc _ _ _ (by simp)])
  ne := by simp
  looseIn := fun _ _ h => by cases h
  wayIn := fun _ _ h => by cases h
  len := hlen
  words := hwords

theorem of_any (w : World) (sp : Option Addr) (n cap : Nat) :
    Calls Try.prog 40 #[.slice sp n cap] w fun e w' => e = .returned (.pointer (some ⟨w.heap.size + 2, 0, none⟩)) ∧ w' = ofWorld w sp n cap := by
  have hmm := @run_makeMap Try.prog
  go_enter Try.func40, Try.ntmps40
  go_wp2
  go_ret
  refine ⟨?_, ?_⟩
  · simp
  · simp [ofWorld]

end Go.Proofs.Ytfalchacdebdpaa
