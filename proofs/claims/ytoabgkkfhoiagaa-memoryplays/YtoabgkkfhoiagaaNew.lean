/- Contracts of New, and of what it calls. -/
import Derived.Test.YtoabgkkfhoiagaaImage
namespace Go.Proofs.Ytoabgkkfhoiagaa
open Go.RowKit Go.Maps Go.ChangeMaps

/-- A memory whose words are xs, all sure. -/
def fresh (xs : List Int) : Mem := ⟨xs, fun _ => none, fun _ => none, 0, false, 0⟩

theorem madeMap (w : World) : MapIs (w.alloc (.map #[] 0)) w.heap.size 0 (fun _ => none) := ⟨_, World.ownsMap_made w _ _ _, reads_empty⟩

/-- The world in which 'of' has made a memory. -/
def ofWorld (w : World) (sp : Option Addr) (n cap : Nat) : World :=
  ((w.alloc (.map #[] 0)).alloc (.map #[] 0)).alloc (.cells #[.slice sp n cap, .map (some w.heap.size), .map (some (w.heap.size + 1)), .int .i64 0, .bool false, .int .i64 0] 65)

theorem heap_alloc_at (w : World) (o : Obj) : (w.alloc o).heap[w.heap.size]? = some o := heap_alloc_new w o

theorem ofWorld_below (w : World) (sp : Option Addr) (n cap : Nat) : Below w.heap.size w (ofWorld w sp n cap) := by
  unfold ofWorld
  exact (((Below.refl _ _).alloc (Nat.le_refl _) _).alloc (by simp) _).alloc (by simp; omega) _

theorem ofWorld_is (w : World) (sp : Option Addr) (cap : Nat) (xs : List Int) (sb : Nat) (hrow : w.ownsRow 0 32 1 (.slice sp xs.length cap) xs.length (xs.map (Value.int .u64)))
    (hplace : sp = none ∧ sb = w.heap.size + 2 ∨ sp = some ⟨sb, 0, none⟩) (hlen : xs.length ≤ 4096) (hwords : ∀ v ∈ xs, (Lit.int .u64 v).wf = true) :
    MemIs (ofWorld w sp xs.length cap) ⟨w.heap.size + 2, sb, cap, w.heap.size, w.heap.size + 1, sp⟩ (fresh xs) where
  obj := by
    have h1 : ((w.alloc (.map #[] 0)).alloc (.map #[] 0)).heap.size = w.heap.size + 2 := by simp
    have h2 := heap_alloc_at ((w.alloc (.map #[] 0)).alloc (.map #[] 0)) (.cells #[.slice sp xs.length cap, .map (some w.heap.size), .map (some (w.heap.size + 1)), .int .i64 0, .bool false, .int .i64 0] 65)
    rw [h1] at h2
    exact h2
  row := ownsRow_of_block hrow fun g hg => (ofWorld_below w sp xs.length cap).block g (hrow.lt g hg).2
  place := hplace
  loose := (madeMap w).of_block (by
    unfold ofWorld
    rw [Below.heap_alloc _ _ _ (by simp; omega), Below.heap_alloc _ _ _ (by simp)])
  way := by
    have h1 : (w.alloc (.map #[] 0)).heap.size = w.heap.size + 1 := by simp
    have h2 := madeMap (w.alloc (.map #[] 0))
    rw [h1] at h2
    exact h2.of_block (by unfold ofWorld; rw [Below.heap_alloc _ _ _ (by simp)])
  ne := by simp
  looseIn := fun _ _ h => by cases h
  wayIn := fun _ _ h => by cases h
  len := hlen
  words := hwords

theorem of_any (w : World) (sp : Option Addr) (n cap : Nat) :
    Calls Try.prog 33 #[.slice sp n cap] w fun e w' => e = .returned (.pointer (some ⟨w.heap.size + 2, 0, none⟩)) ∧ w' = ofWorld w sp n cap := by
  have hmm := @run_makeMap Try.prog
  go_enter Try.func33, Try.ntmps33
  go_wp2
  go_ret
  refine ⟨?_, ?_⟩
  · simp
  · simp [ofWorld]

theorem new_row (w w0 : World) (k : Nat) (hk : k ≤ 4096) (hown0 : w0.ownsRow w.heap.size 32 1 (.slice (some ⟨w.heap.size, 0, none⟩) k k) k (madeCells (Value.int .u64 0).cells (k * 1)).toList) (hg : w.grownBy w0 none) :
    ∃ L : Lay, L.mb = w0.heap.size + 2 ∧ MemIs (ofWorld w0 (some ⟨w.heap.size, 0, none⟩) k k) L (fresh (List.replicate k 0)) ∧ (∀ j ∈ L.blocks, w.heap.size ≤ j) ∧ Below w.heap.size w (ofWorld w0 (some ⟨w.heap.size, 0, none⟩) k k) := by
  have hs := hg.size
  refine ⟨⟨w0.heap.size + 2, w.heap.size, k, w0.heap.size, w0.heap.size + 1, some ⟨w.heap.size, 0, none⟩⟩, rfl, ?_, ?_, ?_⟩
  · have h1 : w0.ownsRow 0 32 1 (.slice (some ⟨w.heap.size, 0, none⟩) (List.replicate k (0 : Int)).length k) (List.replicate k (0 : Int)).length ((List.replicate k (0 : Int)).map (Value.int .u64)) := by
      rw [toList_zeros] at hown0
      simpa using ownsRow_base_a hown0 (Nat.zero_le _)
    have := ofWorld_is w0 (some ⟨w.heap.size, 0, none⟩) k (List.replicate k 0) w.heap.size h1 (.inr rfl) (by simpa using hk) (fun v hv => by rw [List.eq_of_mem_replicate hv]; decide)
    simpa using this
  · intro j hj
    simp only [Lay.blocks, List.mem_cons, List.not_mem_nil, or_false] at hj
    omega
  · exact ((Below.refl _ _).grown hg (Nat.le_refl _) (fun k h => by cases h)).trans ((ofWorld_below w0 _ k k).mono hs)

theorem new_any (n : Int) (k : Nat) (w : World) (hk : min (max n 0) 4096 = (k : Int)) :
    Calls Try.prog 12 #[.int .i64 n] w fun e w' => ∃ L : Lay, e = .returned (.pointer (some ⟨L.mb, 0, none⟩)) ∧ MemIs w' L (fresh (List.replicate k 0)) ∧ (∀ j ∈ L.blocks, w.heap.size ≤ j) ∧ Below w.heap.size w w' := by
  obtain ⟨i0, hi, hz0, hz1, hz2⟩ := info_parts Try.info32
  have hof := of_any
  have hk2 : k ≤ 4096 := by omega
  have HK : Hid (min (max n 0) 4096 = (k : Int)) := hk
  clear hk
  go_enter Try.func12, Try.ntmps12
  go_wp2_with (first
    | (at_make; refine wpList_make_full _ rfl _ _ 45 rfl w.heap.size 32 i0 (.int .u64 0) 1 Try.underlying45 hi hz0 hz1 _ _ _ _ k rfl rfl HK.out HK.out (by rw [hz2]; omega) (by unfold maxLen; omega) (Nat.le_refl _) ?_; intro w0 hown0 hgrow0)
    | (go_at_call 33; refine (hof _ _ _ _).mono ?_; rintro e w2 ⟨rfl, rfl⟩)
    | go_in)
  go_ret
  obtain ⟨L, e1, e2, e3, e4⟩ := new_row w w0 k hk2 hown0 hgrow0
  exact ⟨L, by rw [e1]; rfl, e2, e3, e4⟩

end Go.Proofs.Ytoabgkkfhoiagaa
