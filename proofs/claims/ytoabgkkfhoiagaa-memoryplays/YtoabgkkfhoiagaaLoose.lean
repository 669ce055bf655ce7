/- Loose's contract: the loose words' places, in order, in a new slice. -/
import Derived.Test.YtoabgkkfhoiagaaFence
import Derived.Test.YtoabgkkfhoiagaaShelf
namespace Go.Proofs.Ytoabgkkfhoiagaa
open Go.RowKit Go.Maps Go.ChangeMaps Go.Sort Go.Shelf

/-- The loose words' places, in order. -/
def Mem.keys (M : Mem) : List Int := ((List.range M.sure.length).filter fun (i : Nat) => (M.loose i).isSome).map Int.ofNat

theorem mem_keys (M : Mem) (hin : ∀ k v, M.loose k = some v → 0 ≤ k ∧ k < M.sure.length) (x : Int) : x ∈ M.keys ↔ (M.loose x).isSome = true := by
  unfold Mem.keys
  constructor
  · intro h
    obtain ⟨i, hi, rfl⟩ := List.mem_map.1 h
    exact (List.mem_filter.1 hi).2
  · intro h
    obtain ⟨v, hv⟩ := Option.isSome_iff_exists.1 h
    have := hin x v hv
    refine List.mem_map.2 ⟨x.toNat, List.mem_filter.2 ⟨List.mem_range.2 (by omega), ?_⟩, ?_⟩
    · have e : ((x.toNat : Nat) : Int) = x := by omega
      rw [e]; exact h
    · show ((x.toNat : Nat) : Int) = x; omega

theorem keys_rising (M : Mem) : M.keys.Pairwise (fun a b => a < b) := by
  unfold Mem.keys
  refine List.pairwise_map.2 ?_
  refine (List.Pairwise.filter _ List.pairwise_lt_range).imp ?_
  intro a b h
  show (a : Int) < (b : Int)
  omega

theorem keys_len (M : Mem) : M.keys.length ≤ M.sure.length := by
  unfold Mem.keys
  rw [List.length_map]
  exact Nat.le_trans (List.length_filter_le _ _) (by simp)

theorem Try.sortsA (m : Nat) : AnyZI.SortsIn Try.prog Try.sortedA_ren Fence.wide m :=
  ⟨fun blk off cap ss W hH hblk hsz => callsIn_wide.2 (AnyM.slices_Sort_int Try.sortA blk off cap ss W hH hblk hsz),
   fun p cap W => callsIn_wide.2 (AnyM.slices_Sort_int_none Try.sortA p cap W)⟩

set_option maxHeartbeats 1000000 in
theorem loose_any (L : Lay) (M : Mem) (w : World) (h : MemIs w L M) (hc : M.calls < 1000000000) :
    Calls Try.prog 18 #[.pointer (some ⟨L.mb, 0, none⟩)] w fun e w' => ∃ v, e = .returned v ∧ w'.ownsRow w.heap.size 3 1 v M.keys.length (M.keys.map (Value.int .i64)) ∧ (v = .slice none 0 0 ↔ M.keys = []) ∧ Below w.heap.size w w' := by
  obtain ⟨D0, hown, hR⟩ := h.loose
  have c1 := h.c1
  have hsz := hown.size_le
  have hmax : Maps.size D0 ≤ maxLen := by unfold maxLen; omega
  have hbytes : Maps.size D0 * 8 ≤ 140737488355328 := by omega
  have hperm : M.keys.Perm (intKeys D0) := by
    refine CollectedI.perm (left := fun _ => false) ⟨(keys_rising M).imp (fun h => by omega), fun x => ?_⟩ hown law3 Try.underlying3 (fun _ => rfl)
    rw [mem_keys M h.looseIn, (hR x).1]; simp
  have hsort : ∀ ss : List Int, ss.Perm (intKeys D0) → ss.mergeSort (fun x y => decide (x ≤ y)) = M.keys := fun ss hs => by
    have e1 : ss.mergeSort (fun x y => decide (x ≤ y)) = M.keys.mergeSort (fun x y => decide (x ≤ y)) := mergeSort_of_perm_i (hs.trans hperm.symm)
    rw [e1]
    exact List.mergeSort_of_pairwise ((keys_rising M).imp (fun {a b} h => by simp; omega))
  refine (callsIn_wide (n := 6)).1 ?_
  have hbl := hown.lt
  have hseq : SeqGives Fence.wide 2 Try.prog 51 #[.pointer (some ⟨w.heap.size, 0, none⟩)] encZ (fun ss => ss.Perm (intKeys D0)) (Maps.size D0) (w.alloc (.cells #[.map (some L.lb)] 63)) :=
    AnyZI.keys_gives (ρ := Try.keysA_ren) { Try.keysA with } Fence.wide _ trivial rfl (by omega) w.heap.size L.lb _ D0 _ (by simp) (by simp) (by
      obtain ⟨es, clock, hb, Ft, hs, hD⟩ := hown
      exact ⟨es, clock, (Below.heap_alloc _ _ _ hbl).trans hb, Ft, hs, hD⟩)
  have cK : ∀ mb W, CallsIn Fence.wide 5 Try.prog 42 #[.map mb] W fun e w' => e = .returned (.func (.func 51) #[] #[.pointer (some ⟨W.heap.size, 0, none⟩)]) ∧ w' = W.alloc (.cells #[.map mb] 63) := fun mb W => AnyZI.keys_in Try.keysA Fence.wide 5 trivial rfl mb W
  have cS := AnyZI.sorted_in Try.sortedA Fence.wide 5 trivial trivial trivial trivial rfl (by omega) (Try.sortsA _) (enters_of Try.func50 (by kernel_rfl) rfl) 51 #[.pointer (some ⟨w.heap.size, 0, none⟩)] trivial (enters_of Try.func51 (by kernel_rfl) rfl) _ _ hmax hbytes _ hseq
  change CallsIn _ _ Try.prog 41 _ _ _ at cS
  have hfK : Fence.wide.fn 42 := trivial
  have hfS : Fence.wide.fn 41 := trivial
  clear hown hR hmax hbytes hsz hseq hbl h
  refine callsIn_of_wp Try.func18 rfl trivial ?_ rfl
  simp only [Try.ntmps18, List.size_toArray, List.length_cons, List.length_nil, Nat.reduceAdd, Nat.reduceSub, Array.replicate_succ, Array.replicate_zero, List.push_toArray, List.append_toArray, List.nil_append, List.cons_append]
  gi_wp2_with (first
    | (gi_at_call 42; refine (cK _ _).mono ?_; rintro e w' ⟨rfl, rfl⟩)
    | (gi_at_call 41; refine cS.mono ?_; rintro e w' ⟨v, ss, rfl, hS, hrow, hnil, hb⟩))
  go_ret
  have hlen : ss.length = M.keys.length := (hS.trans hperm.symm).length_eq
  refine ⟨v, rfl, ?_, ?_, ((Below.refl _ w).alloc (Nat.le_refl _) _).trans (hb.mono (by simp))⟩
  · have := ownsRow_base_a hrow (base' := w.heap.size) (by simp)
    rw [hsort ss hS, hlen] at this
    exact this
  · rw [hnil]
    constructor
    · intro e; rw [e] at hlen; exact List.length_eq_zero_iff.1 hlen.symm
    · intro e; rw [e] at hlen; exact List.length_eq_zero_iff.1 hlen

theorem loose_nil (w : World) : Calls Try.prog 18 #[.pointer none] w fun e w' => e = .returned (.slice none 0 0) ∧ w' = w := by
  go_enter Try.func18, Try.ntmps18
  go_wp2
  go_ret
  exact ⟨rfl, rfl⟩

end Go.Proofs.Ytoabgkkfhoiagaa
