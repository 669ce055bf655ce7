/- What makes a memory of words: of, Clone and Load. -/
import Derived.Test.YtdjnkibnnjobpaaRw
import Derived.Lib.SliceRun
import Derived.Shelf.SlIter.Collect
namespace Go.Proofs.Ytdjnkibnnjobpaa
open Go.RowKit Go.Maps Go.ChangeMaps

theorem Try.info22 : (Try.prog.info? 23).map (fun i => (i.zero, i.size, i.bytes)) = some (some (.int .u64 0), 1, 8) := by kernel_rfl

theorem Only.of_below_le {S : List Nat} {w w' : World} {B : Nat} (h : Below B w w') (hB : w.heap.size ≤ B) : Only S w w' := ⟨h.os, h.tape, h.output, h.size, fun k hk _ => h.block k (by omega)⟩

theorem MemIs.below {w w' : World} {L : Lay} {M : Mem} {B : Nat} (h : MemIs w L M) (hb : Below B w w') (hB : ∀ k ∈ L.blocks, k < B) : MemIs w' L M := h.of_blocks fun k hk _ => hb.block k (hB k hk)

theorem toList_zeros (n : Nat) : (madeCells (Value.int .u64 0).cells (n * 1)).toList = List.replicate n (Value.int .u64 0) := by
  rw [Nat.mul_one]; exact toList_madeCells_one _ _

theorem madeMap (w : World) : MapIs (w.alloc (.map #[] 0)) w.heap.size 0 (fun _ => none) := ⟨_, World.ownsMap_made w _ _ _, reads_empty⟩

/-- The world in which 'of' has made a memory. -/
def ofWorld (w : World) (sp : Option Addr) (n cap : Nat) : World :=
  ((w.alloc (.map #[] 0)).alloc (.map #[] 0)).alloc (.cells #[.slice sp n cap, .map (some w.heap.size), .map (some (w.heap.size + 1)), .int .i64 0, .bool false, .int .i64 0] 98)

theorem heap_alloc_at (w : World) (o : Obj) : (w.alloc o).heap[w.heap.size]? = some o := heap_alloc_new w o

theorem ofWorld_below (w : World) (sp : Option Addr) (n cap : Nat) : Below w.heap.size w (ofWorld w sp n cap) := by
  unfold ofWorld
  exact (((Below.refl _ _).alloc (Nat.le_refl _) _).alloc (by simp) _).alloc (by simp; omega) _

theorem ofWorld_is (w : World) (sp : Option Addr) (cap : Nat) (xs : List Int) (sb : Nat) (hrow : w.ownsRow 0 23 1 (.slice sp xs.length cap) xs.length (xs.map (Value.int .u64)))
    (hplace : sp = none ∧ sb = w.heap.size + 2 ∨ sp = some ⟨sb, 0, none⟩) (hlen : xs.length ≤ 4096) (hwords : ∀ v ∈ xs, (Lit.int .u64 v).wf = true) :
    MemIs (ofWorld w sp xs.length cap) ⟨w.heap.size + 2, sb, cap, w.heap.size, w.heap.size + 1, sp⟩ (fresh xs) where
  obj := by
    have h1 : ((w.alloc (.map #[] 0)).alloc (.map #[] 0)).heap.size = w.heap.size + 2 := by simp
    have h2 := heap_alloc_at ((w.alloc (.map #[] 0)).alloc (.map #[] 0)) (.cells #[.slice sp xs.length cap, .map (some w.heap.size), .map (some (w.heap.size + 1)), .int .i64 0, .bool false, .int .i64 0] 98)
    rw [h1] at h2
    exact h2
  row := ownsRow_of_block hrow fun g hg => (ofWorld_below w sp xs.length cap).block g (hrow.lt g hg).2
  place := hplace
  loose := (madeMap w).of_block (by
    unfold ofWorld
    rw [Below.heap_alloc _ _ _ (by simp; omega), Below.heap_alloc _ _ _ (by simp)])
  way := by
    have h1 : (w.alloc (.map #[] 0)).heap.size = w.heap.size + 1 := by simp
    have h2 := madeMap (w.alloc (.map #[] 0))
    rw [h1] at h2
    exact h2.of_block (by unfold ofWorld; rw [Below.heap_alloc _ _ _ (by simp)])
  ne := by simp
  looseIn := fun _ _ h => by cases h
  wayIn := fun _ _ h => by cases h
  len := hlen
  words := hwords

theorem of_any (w : World) (sp : Option Addr) (n cap : Nat) :
    Calls Try.prog 27 #[.slice sp n cap] w fun e w' => e = .returned (.pointer (some ⟨w.heap.size + 2, 0, none⟩)) ∧ w' = ofWorld w sp n cap := by
  have hmm := @run_makeMap Try.prog
  go_enter Try.func27, Try.ntmps27
  go_wp2
  go_ret
  refine ⟨?_, ?_⟩
  · simp
  · simp [ofWorld]

set_option maxHeartbeats 1000000 in
set_option maxRecDepth 100000 in
theorem clone_some (x : Addr) (cap : Nat) (xs : List Int) (w : World) (hlen : xs.length ≤ 4096) (hc : ∀ i, i < xs.length → w.cell? (x.add i) = some (.int .u64 (xs.getD i 0))) :
    Calls Try.prog 28 #[.slice (some x) xs.length cap] w fun e w' => ∃ v, e = .returned v ∧ w'.ownsRow w.heap.size 23 1 v xs.length (xs.map (Value.int .u64)) ∧ Below w.heap.size w w' := by
  obtain ⟨i0, hi, hz0, hz1, hz2⟩ := info_parts Try.info22
  have hown0 : (w.alloc (.cells #[] 23)).ownsRow w.heap.size 23 1 (.slice (some ⟨w.heap.size, 0, none⟩) 0 0) 0 [] := World.ownsRow_made w #[] 0 (Nat.le_refl _) (Nat.zero_le _) rfl
  have hnews : ∀ (j : Nat) (u : Value), (xs.map (Value.int .u64))[j]? = some u → (w.alloc (.cells #[] 23)).cell? (x.add j) = some u := fun j u hj => by
    have hjl : j < xs.length := by
      have := (List.getElem?_eq_some_iff.1 hj).1
      simpa using this
    have h1 := hc j hjl
    have hlt := World.block_lt_of_cell? w _ h1
    rw [World.cell?_of_block (w := w) (Below.heap_alloc _ _ _ hlt), h1]
    simp [hjl] at hj
    rw [← hj]; simp [hjl]
  have hone : ∀ u ∈ xs.map (Value.int .u64), u.oneCell' = true := fun u hu => by
    obtain ⟨n, _, rfl⟩ := List.mem_map.1 hu
    rfl
  have q45 : ∀ (w : World) (a : Option Addr) (n c n' c' : Nat), (binOp .eql 30 (.slice a n c) (.slice none n' c')).run Try.prog w = .ok (.bool a.isNone) w := fun w a n c n' c' => Lib.run_eql_slice_nil w _ _ a n c n' c' Try.underlying30
  go_enter Try.func28, Try.ntmps28
  go_wp2_with (first
    | (at_builtin; refine wpList_append_own _ rfl _ _ 30 rfl w.heap.size 23 i0 (.int .u64 0) 1 8 Try.underlying30 hi hz0 hz1 hz2 rfl (by decide) _ 0 [] rfl hown0 x xs.length cap (xs.map (Value.int .u64)) rfl (by simp) hnews hone (by unfold maxLen; omega) (by omega) (by simp) ?_; intro v' w1 hrow hg hnil)
    | go_in)
  go_ret
  refine ⟨v', rfl, by simpa using hrow, ?_⟩
  exact ((Below.refl _ _).alloc (Nat.le_refl _) _).grown hg (by simp) (fun k hk => by cases hk; exact Nat.le_refl _)

theorem mem_of_row (w w1 : World) (va : Option Addr) (vc : Nat) (xs : List Int) (hrow : w1.ownsRow w.heap.size 23 1 (.slice va xs.length vc) xs.length (xs.map (Value.int .u64))) (hlen : xs.length ≤ 4096) (hw : ∀ v ∈ xs, (Lit.int .u64 v).wf = true) (hb : Below w.heap.size w w1) :
    ∃ L : Lay, L.mb = w1.heap.size + 2 ∧ MemIs (ofWorld w1 va xs.length vc) L (fresh xs) ∧ (∀ j ∈ L.blocks, w.heap.size ≤ j) ∧ Below w.heap.size w (ofWorld w1 va xs.length vc) := by
  have hs := hb.size
  have hb' := hb.trans ((ofWorld_below w1 va xs.length vc).mono hs)
  rcases hrow.2 with ⟨e, e0⟩ | ⟨g, c, cur, e, hg, _⟩
  · simp only [Value.slice.injEq] at e
    obtain ⟨rfl, _, rfl⟩ := e
    refine ⟨⟨w1.heap.size + 2, w1.heap.size + 2, 0, w1.heap.size, w1.heap.size + 1, none⟩, rfl, ofWorld_is w1 none 0 xs _ (ownsRow_base_a hrow (Nat.zero_le _)) (.inl ⟨rfl, rfl⟩) hlen hw, ?_, hb'⟩
    intro j hj
    simp only [Lay.blocks, List.mem_cons, List.not_mem_nil, or_false] at hj
    omega
  · simp only [Value.slice.injEq] at e
    obtain ⟨rfl, _, rfl⟩ := e
    refine ⟨⟨w1.heap.size + 2, g, _, w1.heap.size, w1.heap.size + 1, some ⟨g, 0, none⟩⟩, rfl, ofWorld_is w1 _ _ xs g (ownsRow_base_a hrow (Nat.zero_le _)) (.inr rfl) hlen hw, ?_, hb'⟩
    intro j hj
    simp only [Lay.blocks, List.mem_cons, List.not_mem_nil, or_false] at hj
    omega

/-- Load of words that lie at a place. -/
theorem load_any (b o cap : Nat) (xs : List Int) (w : World) (hlen : xs.length ≤ 4096) (hcap : xs.length ≤ cap) (hw : ∀ v ∈ xs, (Lit.int .u64 v).wf = true) (hc : ∀ i, i < xs.length → w.cell? ⟨b, o + i, none⟩ = some (.int .u64 (xs.getD i 0))) :
    Calls Try.prog 9 #[.slice (some ⟨b, o, none⟩) xs.length cap] w fun e w' => ∃ L : Lay, e = .returned (.pointer (some ⟨L.mb, 0, none⟩)) ∧ MemIs w' L (fresh xs) ∧ (∀ j ∈ L.blocks, w.heap.size ≤ j) ∧ Below w.heap.size w w' := by
  have hof := of_any
  have hcl := clone_some ⟨b, o, none⟩ cap xs w hlen (fun i hi => by rw [add_none]; exact hc i hi)
  have HX : Hid (∀ v ∈ xs, (Lit.int .u64 v).wf = true) := hw
  obtain ⟨k, hk⟩ : ∃ k, xs.length = k := ⟨_, rfl⟩
  have HK : Hid (xs.length = k) := hk
  have hm : min (k : Int) 4096 = (k : Int) := by omega
  have hkc : k ≤ cap := by omega
  rw [hk] at hcl hlen ⊢
  have HCL : Hid _ := hcl
  clear hcl hc hw hk hcap
  go_enter Try.func9, Try.ntmps9
  go_wp2_with (first
    | (go_at_call 28; refine Calls.mono (Hid.out HCL) ?_; rintro e w1 ⟨v, rfl, hrow, hb⟩; obtain ⟨va, vc, rfl, _⟩ := ownsRow_form0 hrow)
    | (go_at_call 27; refine (hof _ _ _ _).mono ?_; rintro e w2 ⟨rfl, rfl⟩)
    | go_in)
  go_ret
  have hx := HK.out
  subst hx
  obtain ⟨L, e1, e2, e3, e4⟩ := mem_of_row w w1 va vc _ hrow hlen HX.out hb
  exact ⟨L, by rw [e1]; rfl, e2, e3, e4⟩

end Go.Proofs.Ytdjnkibnnjobpaa
