/- The keys of a map of words, and of a set, in order; the view's Changes and Seen. -/
import Derived.Test.YtomlbifplliakaaGreatVwF
import Derived.Test.YtomlbifplliakaaGreatShelf
import Derived.Deep.QuietTactic
namespace Go.Proofs.YtomlbifplliakaaGreat
open Go.RowKit Go.Maps Go.ChangeMaps Go.Sort Go.Shelf

theorem Tryz.sortsA (m : Nat) : AnyZI.SortsIn Tryz.prog Tryz.sortedA_ren Fence.wide m :=
  ⟨fun blk off cap ss W hH hblk hsz => callsIn_wide.2 (AnyM.slices_Sort_int Tryz.sortA blk off cap ss W hH hblk hsz),
   fun p cap W => callsIn_wide.2 (AnyM.slices_Sort_int_none Tryz.sortA p cap W)⟩

/-- The places below n at which s is true, in order. -/
def placesOf (s : Int → Bool) (n : Nat) : List Int := ((List.range n).filter fun (i : Nat) => s i).map Int.ofNat
theorem mem_placesOf {s : Int → Bool} {n : Nat} (h : ∀ k, s k = true → 0 ≤ k ∧ k < n) (x : Int) : x ∈ placesOf s n ↔ s x = true := by
  unfold placesOf
  simp only [List.mem_map, List.mem_filter, List.mem_range]
  constructor
  · rintro ⟨i, ⟨_, h1⟩, rfl⟩; exact h1
  · intro hx
    have := h x hx
    exact ⟨x.toNat, ⟨by omega, by rw [show ((x.toNat : Nat) : Int) = x by omega]; exact hx⟩, by simp; omega⟩
theorem placesOf_rising (s : Int → Bool) (n : Nat) : (placesOf s n).Pairwise (fun a b => a < b) := by
  unfold placesOf
  refine List.pairwise_map.2 ?_
  exact (List.Pairwise.filter _ List.pairwise_lt_range).imp fun {a b} h => by simp; omega
theorem placesOf_len (s : Int → Bool) (n : Nat) : (placesOf s n).length ≤ n := by
  unfold placesOf
  rw [List.length_map]
  exact Nat.le_trans (List.length_filter_le _ _) (by simp)

/-- A row of places made by slices.Sorted. -/
def SortedTo (w w' : World) (e : Ending) (l : List Int) : Prop := ∃ v, e = .returned v ∧ w'.ownsRow w.heap.size 3 1 v l.length (l.map (Value.int .i64)) ∧ (v = .slice none 0 0 ↔ l = []) ∧ Below w.heap.size w w'

theorem keysA_any (mb : Option Nat) (w : World) : Calls Tryz.prog 49 #[.map mb] w fun e w' => e = .returned (.func (.func 67) #[] #[.pointer (some ⟨w.heap.size, 0, none⟩)]) ∧ w' = w.alloc (.cells #[.map mb] 58) :=
  (callsIn_wide (n := 5)).1 (AnyZI.keys_in Tryz.keysA Fence.wide 5 trivial rfl mb w)
theorem keysB_any (mb : Option Nat) (w : World) : Calls Tryz.prog 69 #[.map mb] w fun e w' => e = .returned (.func (.func 80) #[] #[.pointer (some ⟨w.heap.size, 0, none⟩)]) ∧ w' = w.alloc (.cells #[.map mb] 60) :=
  (callsIn_wide (n := 5)).1 (AnyZI.keys_in Tryz.keysB Fence.wide 5 trivial rfl mb w)


set_option maxHeartbeats 1000000 in
theorem sortedA_any (c b n : Nat) (D0 : DataW Unit) (s : Int → Bool) (q : Nat) (w : World) (hc : w.heap[c]? = some (.cells #[.map (some b)] 58 (0, 0))) (hown : w.ownsMap Tryz.prog 3 (plainElem Tryz.prog 35) b n D0) (hR : ∀ x : Int, Maps.has D0 (.int .i64 x) = s x) (hn : n < 1000000000) (hs : ∀ k, s k = true → 0 ≤ k ∧ k < q) :
    Calls Tryz.prog 48 #[.func (.func 67) #[] #[.pointer (some ⟨c, 0, none⟩)]] w fun e w' => SortedTo w w' e (placesOf s q) := by
  have hsz := hown.size_le
  have hmax : Maps.size D0 ≤ maxLen := by unfold maxLen; omega
  have hbytes : Maps.size D0 * 8 ≤ 140737488355328 := by omega
  have hperm : (placesOf s q).Perm (intKeys D0) := by
    refine CollectedI.perm (left := fun _ => false) ⟨(placesOf_rising s q).imp (fun h => by omega), fun x => ?_⟩ hown law3 Tryz.underlying3 (fun _ => rfl)
    rw [mem_placesOf hs, hR x]; simp
  have hsort : ∀ ss : List Int, ss.Perm (intKeys D0) → ss.mergeSort (fun x y => decide (x ≤ y)) = placesOf s q := fun ss hs => by
    have e1 : ss.mergeSort (fun x y => decide (x ≤ y)) = (placesOf s q).mergeSort (fun x y => decide (x ≤ y)) := mergeSort_of_perm_i (hs.trans hperm.symm)
    rw [e1]
    exact List.mergeSort_of_pairwise ((placesOf_rising s q).imp (fun {a b} h => by simp; omega))
  have hseq : SeqGives Fence.wide 2 Tryz.prog 67 #[.pointer (some ⟨c, 0, none⟩)] encZ (fun ss => ss.Perm (intKeys D0)) (Maps.size D0) w :=
    AnyZI.keys_gives (ρ := Tryz.keysA_ren) { Tryz.keysA with } Fence.wide _ trivial rfl (by omega) c b _ D0 _ (Array.getElem?_eq_some_iff.1 hc).1 (by rw [cell_of_row w c 0 _ _ _ hc]; rfl) hown
  have cS := AnyZI.sorted_in Tryz.sortedA Fence.wide 5 trivial trivial trivial trivial rfl (by omega) (Tryz.sortsA _) (enters_of Tryz.func66 (by kernel_rfl) rfl) 67 #[.pointer (some ⟨c, 0, none⟩)] trivial (enters_of Tryz.func67 (by kernel_rfl) rfl) _ _ hmax hbytes _ hseq
  change CallsIn _ _ Tryz.prog 48 _ _ _ at cS
  refine ((callsIn_wide (n := 5)).1 cS).mono ?_
  rintro e w' ⟨v, ss, rfl, hS, hrow, hnil, hb⟩
  have hlen : ss.length = (placesOf s q).length := (hS.trans hperm.symm).length_eq
  refine ⟨v, rfl, ?_, ?_, hb⟩
  · rw [hsort ss hS, hlen] at hrow
    exact hrow
  · rw [hnil]
    constructor
    · intro e; rw [e] at hlen; exact List.length_eq_zero_iff.1 hlen.symm
    · intro e; rw [e] at hlen; exact List.length_eq_zero_iff.1 hlen


set_option maxHeartbeats 1000000 in
theorem sortedB_any (c b n : Nat) (D0 : DataW Unit) (s : Int → Bool) (q : Nat) (w : World) (hc : w.heap[c]? = some (.cells #[.map (some b)] 60 (0, 0))) (hown : w.ownsMap Tryz.prog 3 (plainElem Tryz.prog 4) b n D0) (hR : ∀ x : Int, Maps.has D0 (.int .i64 x) = s x) (hn : n < 1000000000) (hs : ∀ k, s k = true → 0 ≤ k ∧ k < q) :
    Calls Tryz.prog 48 #[.func (.func 80) #[] #[.pointer (some ⟨c, 0, none⟩)]] w fun e w' => SortedTo w w' e (placesOf s q) := by
  have hsz := hown.size_le
  have hmax : Maps.size D0 ≤ maxLen := by unfold maxLen; omega
  have hbytes : Maps.size D0 * 8 ≤ 140737488355328 := by omega
  have hperm : (placesOf s q).Perm (intKeys D0) := by
    refine CollectedI.perm (left := fun _ => false) ⟨(placesOf_rising s q).imp (fun h => by omega), fun x => ?_⟩ hown law3 Tryz.underlying3 (fun _ => rfl)
    rw [mem_placesOf hs, hR x]; simp
  have hsort : ∀ ss : List Int, ss.Perm (intKeys D0) → ss.mergeSort (fun x y => decide (x ≤ y)) = placesOf s q := fun ss hs => by
    have e1 : ss.mergeSort (fun x y => decide (x ≤ y)) = (placesOf s q).mergeSort (fun x y => decide (x ≤ y)) := mergeSort_of_perm_i (hs.trans hperm.symm)
    rw [e1]
    exact List.mergeSort_of_pairwise ((placesOf_rising s q).imp (fun {a b} h => by simp; omega))
  have hseq : SeqGives Fence.wide 2 Tryz.prog 80 #[.pointer (some ⟨c, 0, none⟩)] encZ (fun ss => ss.Perm (intKeys D0)) (Maps.size D0) w :=
    AnyZI.keys_gives (ρ := Tryz.keysB_ren) { Tryz.keysB with } Fence.wide _ trivial rfl (by omega) c b _ D0 _ (Array.getElem?_eq_some_iff.1 hc).1 (by rw [cell_of_row w c 0 _ _ _ hc]; rfl) hown
  have cS := AnyZI.sorted_in Tryz.sortedA Fence.wide 5 trivial trivial trivial trivial rfl (by omega) (Tryz.sortsA _) (enters_of Tryz.func66 (by kernel_rfl) rfl) 80 #[.pointer (some ⟨c, 0, none⟩)] trivial (enters_of Tryz.func80 (by kernel_rfl) rfl) _ _ hmax hbytes _ hseq
  change CallsIn _ _ Tryz.prog 48 _ _ _ at cS
  refine ((callsIn_wide (n := 5)).1 cS).mono ?_
  rintro e w' ⟨v, ss, rfl, hS, hrow, hnil, hb⟩
  have hlen : ss.length = (placesOf s q).length := (hS.trans hperm.symm).length_eq
  refine ⟨v, rfl, ?_, ?_, hb⟩
  · rw [hsort ss hS, hlen] at hrow
    exact hrow
  · rw [hnil]
    constructor
    · intro e; rw [e] at hlen; exact List.length_eq_zero_iff.1 hlen.symm
    · intro e; rw [e] at hlen; exact List.length_eq_zero_iff.1 hlen

end Go.Proofs.YtomlbifplliakaaGreat
