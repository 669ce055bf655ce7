/- Contracts of Clone and Load: a memory with words that lie somewhere. -/
import Derived.Test.YtfalchacdebdpaaNew
import Derived.Lib.SliceRun
import Derived.Test.YtfalchacdebdpaaSealF
namespace Go.Proofs.Ytfalchacdebdpaa
open Go.RowKit Go.Maps Go.ChangeMaps

set_option maxHeartbeats 1000000 in
set_option maxRecDepth 100000 in
theorem clone_some (x : Addr) (cap : Nat) (xs : List Int) (w : World) (hlen : xs.length ≤ 4096) (hc : ∀ i, i < xs.length → w.cell? (x.add i) = some (.int .u64 (xs.getD i 0))) :
    Calls Try.prog 41 #[.slice (some x) xs.length cap] w fun e w' => ∃ v, e = .returned v ∧ w'.ownsRow w.heap.size 22 1 v xs.length (xs.map (Value.int .u64)) ∧ Below w.heap.size w w' := by
  obtain ⟨i0, hi, hz0, hz1, hz2⟩ := info_parts Try.info22
  have hown0 : (w.alloc (.cells #[] 22)).ownsRow w.heap.size 22 1 (.slice (some ⟨w.heap.size, 0, none⟩) 0 0) 0 [] := World.ownsRow_made w #[] 0 (Nat.le_refl _) (Nat.zero_le _) rfl
  have hnews : ∀ (j : Nat) (u : Value), (xs.map (Value.int .u64))[j]? = some u → (w.alloc (.cells #[] 22)).cell? (x.add j) = some u := fun j u hj => by
    have hjl : j < xs.length := by
      have := (List.getElem?_eq_some_iff.1 hj).1
      simpa using this
    have h1 := hc j hjl
    have hlt := World.block_lt_of_cell? w _ h1
    rw [World.cell?_of_block (w := w) (Below.heap_alloc _ _ _ hlt), h1]
    simp [hjl] at hj
    rw [← hj]; simp [hjl]
  have hone : ∀ u ∈ xs.map (Value.int .u64), u.oneCell' = true := fun u hu => by
    obtain ⟨n, _, rfl⟩ := List.mem_map.1 hu
    rfl
  have q45 : ∀ (w : World) (a : Option Addr) (n c n' c' : Nat), (binOp .eql 37 (.slice a n c) (.slice none n' c')).run Try.prog w = .ok (.bool a.isNone) w := fun w a n c n' c' => Lib.run_eql_slice_nil w _ _ a n c n' c' Try.underlying37
  go_enter Try.func41, Try.ntmps41
  go_wp2_with (first
    | (at_builtin; refine wpList_append_own _ rfl _ _ 37 rfl w.heap.size 22 i0 (.int .u64 0) 1 8 Try.underlying37 hi hz0 hz1 hz2 rfl (by decide) _ 0 [] rfl hown0 x xs.length cap (xs.map (Value.int .u64)) rfl (by simp) hnews hone (by unfold maxLen; omega) (by omega) (by simp) ?_; intro v' w1 hrow hg hnil)
    | go_in)
  go_ret
  refine ⟨v', rfl, by simpa using hrow, ?_⟩
  exact ((Below.refl _ _).alloc (Nat.le_refl _) _).grown hg (by simp) (fun k hk => by cases hk; exact Nat.le_refl _)

theorem mem_of_row (w w1 : World) (va : Option Addr) (vc : Nat) (xs : List Int) (hrow : w1.ownsRow w.heap.size 22 1 (.slice va xs.length vc) xs.length (xs.map (Value.int .u64))) (hlen : xs.length ≤ 4096) (hw : ∀ v ∈ xs, (Lit.int .u64 v).wf = true) (hb : Below w.heap.size w w1) :
    ∃ L : Lay, L.mb = w1.heap.size + 2 ∧ MemIs (ofWorld w1 va xs.length vc) L (fresh xs) ∧ (∀ j ∈ L.blocks, w.heap.size ≤ j) ∧ Below w.heap.size w (ofWorld w1 va xs.length vc) := by
  have hs := hb.size
  have hb' := hb.trans ((ofWorld_below w1 va xs.length vc).mono hs)
  rcases hrow.2 with ⟨e, e0⟩ | ⟨g, c, cur, e, hg, _⟩
  · simp only [Value.slice.injEq] at e
    obtain ⟨rfl, _, rfl⟩ := e
    refine ⟨⟨w1.heap.size + 2, w1.heap.size + 2, 0, w1.heap.size, w1.heap.size + 1, none⟩, rfl, ofWorld_is w1 none 0 xs _ (ownsRow_base_a hrow (Nat.zero_le _)) (.inl ⟨rfl, rfl⟩) hlen hw, ?_, hb'⟩
    intro j hj
    simp only [Lay.blocks, List.mem_cons, List.not_mem_nil, or_false] at hj
    omega
  · simp only [Value.slice.injEq] at e
    obtain ⟨rfl, _, rfl⟩ := e
    refine ⟨⟨w1.heap.size + 2, g, _, w1.heap.size, w1.heap.size + 1, some ⟨g, 0, none⟩⟩, rfl, ofWorld_is w1 _ _ xs g (ownsRow_base_a hrow (Nat.zero_le _)) (.inr rfl) hlen hw, ?_, hb'⟩
    intro j hj
    simp only [Lay.blocks, List.mem_cons, List.not_mem_nil, or_false] at hj
    omega

/-- Load of words that lie at a place. -/
theorem load_any (b o cap : Nat) (xs : List Int) (w : World) (hlen : xs.length ≤ 4096) (hcap : xs.length ≤ cap) (hw : ∀ v ∈ xs, (Lit.int .u64 v).wf = true) (hc : ∀ i, i < xs.length → w.cell? ⟨b, o + i, none⟩ = some (.int .u64 (xs.getD i 0))) :
    Calls Try.prog 14 #[.slice (some ⟨b, o, none⟩) xs.length cap] w fun e w' => ∃ L : Lay, e = .returned (.pointer (some ⟨L.mb, 0, none⟩)) ∧ MemIs w' L (fresh xs) ∧ (∀ j ∈ L.blocks, w.heap.size ≤ j) ∧ Below w.heap.size w w' := by
  have hof := of_any
  have hcl := clone_some ⟨b, o, none⟩ cap xs w hlen (fun i hi => by rw [add_none]; exact hc i hi)
  have HX : Hid (∀ v ∈ xs, (Lit.int .u64 v).wf = true) := hw
  obtain ⟨k, hk⟩ : ∃ k, xs.length = k := ⟨_, rfl⟩
  have HK : Hid (xs.length = k) := hk
  have hm : min (k : Int) 4096 = (k : Int) := by omega
  have hkc : k ≤ cap := by omega
  rw [hk] at hcl hlen ⊢
  have HCL : Hid _ := hcl
  clear hcl hc hw hk hcap
  go_enter Try.func14, Try.ntmps14
  go_wp2_with (first
    | (go_at_call 41; refine Calls.mono (Hid.out HCL) ?_; rintro e w1 ⟨v, rfl, hrow, hb⟩; obtain ⟨va, vc, rfl, _⟩ := ownsRow_form0 hrow)
    | (go_at_call 40; refine (hof _ _ _ _).mono ?_; rintro e w2 ⟨rfl, rfl⟩)
    | go_in)
  go_ret
  have hx := HK.out
  subst hx
  obtain ⟨L, e1, e2, e3, e4⟩ := mem_of_row w w1 va vc _ hrow hlen HX.out hb
  exact ⟨L, by rw [e1]; rfl, e2, e3, e4⟩

end Go.Proofs.Ytfalchacdebdpaa
