/- Loose's contract: the loose words' places, in order, in a new slice. -/
import Derived.Test.YtfalchacdebdpaaFence
import Derived.Test.YtfalchacdebdpaaShelf
namespace Go.Proofs.Ytfalchacdebdpaa
open Go.RowKit Go.Maps Go.ChangeMaps Go.Sort Go.Shelf

theorem Try.sortsA (m : Nat) : AnyZI.SortsIn Try.prog Try.sortedA_ren Fence.wide m :=
  ⟨fun blk off cap ss W hH hblk hsz => callsIn_wide.2 (AnyM.slices_Sort_int Try.sortA blk off cap ss W hH hblk hsz),
   fun p cap W => callsIn_wide.2 (AnyM.slices_Sort_int_none Try.sortA p cap W)⟩

set_option maxHeartbeats 1000000 in
theorem loose_any (L : Lay) (M : Mem) (w : World) (h : MemIs w L M) (hc : M.calls < 1000000000) :
    Calls Try.prog 20 #[.pointer (some ⟨L.mb, 0, none⟩)] w fun e w' => ∃ v, e = .returned v ∧ w'.ownsRow w.heap.size 3 1 v M.keys.length (M.keys.map (Value.int .i64)) ∧ (v = .slice none 0 0 ↔ M.keys = []) ∧ Below w.heap.size w w' := by
  obtain ⟨D0, hown, hR⟩ := h.loose
  have c1 := h.c1
  have hsz := hown.size_le
  have hmax : Maps.size D0 ≤ maxLen := by unfold maxLen; omega
  have hbytes : Maps.size D0 * 8 ≤ 140737488355328 := by omega
  have hperm : M.keys.Perm (intKeys D0) := by
    refine CollectedI.perm (left := fun _ => false) ⟨(keys_rising M).imp (fun h => by omega), fun x => ?_⟩ hown law3 Try.underlying3 (fun _ => rfl)
    rw [mem_keys M h.looseIn, (hR x).1]; simp
  have hsort : ∀ ss : List Int, ss.Perm (intKeys D0) → ss.mergeSort (fun x y => decide (x ≤ y)) = M.keys := fun ss hs => by
    have e1 : ss.mergeSort (fun x y => decide (x ≤ y)) = M.keys.mergeSort (fun x y => decide (x ≤ y)) := mergeSort_of_perm_i (hs.trans hperm.symm)
    rw [e1]
    exact List.mergeSort_of_pairwise ((keys_rising M).imp (fun {a b} h => by simp; omega))
  refine (callsIn_wide (n := 6)).1 ?_
  have hbl := hown.lt
  have hseq : SeqGives Fence.wide 2 Try.prog 65 #[.pointer (some ⟨w.heap.size, 0, none⟩)] encZ (fun ss => ss.Perm (intKeys D0)) (Maps.size D0) (w.alloc (.cells #[.map (some L.lb)] 87)) :=
    AnyZI.keys_gives (ρ := Try.keysA_ren) { Try.keysA with } Fence.wide _ trivial rfl (by omega) w.heap.size L.lb _ D0 _ (by simp) (by simp) (by
      obtain ⟨es, clock, hb, Ft, hs, hD⟩ := hown
      exact ⟨es, clock, (Below.heap_alloc _ _ _ hbl).trans hb, Ft, hs, hD⟩)
  have cK : ∀ mb W, CallsIn Fence.wide 5 Try.prog 45 #[.map mb] W fun e w' => e = .returned (.func (.func 65) #[] #[.pointer (some ⟨W.heap.size, 0, none⟩)]) ∧ w' = W.alloc (.cells #[.map mb] 87) := fun mb W => AnyZI.keys_in Try.keysA Fence.wide 5 trivial rfl mb W
  have cS := AnyZI.sorted_in Try.sortedA Fence.wide 5 trivial trivial trivial trivial rfl (by omega) (Try.sortsA _) (enters_of Try.func64 (by kernel_rfl) rfl) 65 #[.pointer (some ⟨w.heap.size, 0, none⟩)] trivial (enters_of Try.func65 (by kernel_rfl) rfl) _ _ hmax hbytes _ hseq
  change CallsIn _ _ Try.prog 44 _ _ _ at cS
  have hfK : Fence.wide.fn 45 := trivial
  have hfS : Fence.wide.fn 44 := trivial
  clear hown hR hmax hbytes hsz hseq hbl h
  refine callsIn_of_wp Try.func20 rfl trivial ?_ rfl
  simp only [Try.ntmps20, List.size_toArray, List.length_cons, List.length_nil, Nat.reduceAdd, Nat.reduceSub, Array.replicate_succ, Array.replicate_zero, List.push_toArray, List.append_toArray, List.nil_append, List.cons_append]
  gi_wp2_with (first
    | (gi_at_call 45; refine (cK _ _).mono ?_; rintro e w' ⟨rfl, rfl⟩)
    | (gi_at_call 44; refine cS.mono ?_; rintro e w' ⟨v, ss, rfl, hS, hrow, hnil, hb⟩))
  go_ret
  have hlen : ss.length = M.keys.length := (hS.trans hperm.symm).length_eq
  refine ⟨v, rfl, ?_, ?_, ((Below.refl _ w).alloc (Nat.le_refl _) _).trans (hb.mono (by simp))⟩
  · have := ownsRow_base_a hrow (base' := w.heap.size) (by simp)
    rw [hsort ss hS, hlen] at this
    exact this
  · rw [hnil]
    constructor
    · intro e; rw [e] at hlen; exact List.length_eq_zero_iff.1 hlen.symm
    · intro e; rw [e] at hlen; exact List.length_eq_zero_iff.1 hlen

end Go.Proofs.Ytfalchacdebdpaa
