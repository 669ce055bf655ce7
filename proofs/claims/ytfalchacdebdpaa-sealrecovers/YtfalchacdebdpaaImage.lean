/- Image's contract. -/
import Derived.Test.YtfalchacdebdpaaLoose
namespace Go.Proofs.Ytfalchacdebdpaa
open Go.RowKit Go.Maps Go.ChangeMaps

theorem Try.info22 : (Try.prog.info? 22).map (fun i => (i.zero, i.size, i.bytes)) = some (some (.int .u64 0), 1, 8) := by kernel_rfl

/-- The first k of them, and 0 behind. -/
def imageTo (M : Mem) (k : Nat) : List Value := (List.range M.sure.length).map fun (i : Nat) => Value.int .u64 (if i < k then M.read i else 0)

theorem imageTo_zero (M : Mem) : imageTo M 0 = List.replicate M.sure.length (Value.int .u64 0) := by
  apply List.ext_getElem (by simp [imageTo])
  intro i h1 h2; simp [imageTo]
theorem imageTo_all (M : Mem) : imageTo M M.sure.length = M.image.map (Value.int .u64) := by
  apply List.ext_getElem (by simp [imageTo, Mem.image])
  intro i h1 h2
  simp [imageTo] at h1
  simp [imageTo, Mem.image, h1]
theorem imageTo_step (M : Mem) (k : Nat) : (imageTo M k).set k (.int .u64 (M.read k)) = imageTo M (k + 1) := by
  apply List.ext_getElem (by simp [imageTo])
  intro i h1 h2
  rw [List.getElem_set]
  simp only [imageTo, List.getElem_map, List.getElem_range]
  by_cases e : k = i
  · subst e; simp
  · have : (i < k + 1) ↔ (i < k) := by omega
    simp [e, this]

theorem Only.of_below_le {S : List Nat} {w w' : World} {B : Nat} (h : Below B w w') (hB : w.heap.size ≤ B) : Only S w w' := ⟨h.os, h.tape, h.output, h.size, fun k hk _ => h.block k (by omega)⟩

theorem MemIs.below {w w' : World} {L : Lay} {M : Mem} {B : Nat} (h : MemIs w L M) (hb : Below B w w') (hB : ∀ k ∈ L.blocks, k < B) : MemIs w' L M := h.of_blocks fun k hk _ => hb.block k (hB k hk)

theorem toList_zeros (n : Nat) : (madeCells (Value.int .u64 0).cells (n * 1)).toList = List.replicate n (Value.int .u64 0) := by
  rw [Nat.mul_one]; exact toList_madeCells_one _ _

set_option maxHeartbeats 1000000 in
theorem image_any (L : Lay) (M : Mem) (w : World) (h : MemIs w L M) :
    Calls Try.prog 19 #[.pointer (some ⟨L.mb, 0, none⟩)] w fun e w' => e = .returned (.slice (some ⟨w.heap.size, 0, none⟩) M.sure.length M.sure.length) ∧
      w'.ownsRow w.heap.size 22 1 (.slice (some ⟨w.heap.size, 0, none⟩) M.sure.length M.sure.length) M.sure.length (M.image.map (Value.int .u64)) ∧ Below w.heap.size w w' := by
  obtain ⟨i0, hi, hz0, hz1, hz2⟩ := info_parts Try.info22
  have hlen := h.len
  have hall := h.all_lt
  go_enter Try.func19, Try.ntmps19
  go_wp2_with (first
    | (go_at_call 28; refine (size_any L M _ h).mono ?_; rintro e w' ⟨rfl, hw⟩; obtain rfl := hw.symm)
    | (at_make; refine wpList_make_full _ rfl _ _ 37 rfl w.heap.size 22 i0 (.int .u64 0) 1 Try.underlying37 hi hz0 hz1 _ _ _ _ M.sure.length rfl rfl rfl rfl (by rw [hz2]; omega) (by unfold maxLen; omega) (Nat.le_refl _) ?_; intro w0 hown0 hgrow0)
    | go_in)
  go_loopw [10] (fun i wr => ∃ k : Nat, k ≤ M.sure.length ∧ i = .int .i64 k ∧ wr.ownsRow w.heap.size 22 1 (.slice (some ⟨w.heap.size, 0, none⟩) M.sure.length M.sure.length) M.sure.length (imageTo M k) ∧ Below w.heap.size w wr) (fun i _ => M.sure.length - (intOf i).toNat)
  case atStart => exact ⟨0, Nat.zero_le _, rfl, by rw [imageTo_zero, ← toList_zeros]; exact hown0, (Below.refl _ _).grown hgrow0 (Nat.le_refl _) (fun k h => by cases h)⟩
  case round =>
    obtain ⟨k, hk, rfl, hown, hnx⟩ := hrel
    have hM := h.below hnx hall
    by_cases hlt : k < M.sure.length
    · have hcell : wr.cell? ⟨w.heap.size, k, none⟩ = some (.int .u64 0) := by rw [hown.cellAt _ (by omega)]; simp [imageTo, hlt]
      have hfz : wr.frozen? ⟨w.heap.size, k, none⟩ = false := hown.frozenAt _
      have hwk : (Lit.int .i64 (k : Int)).wf = true := WalkArith.wf_i64 (by omega)
      go_wp2_with (first
        | (go_at_call 27; refine (read_any L M k _ hM hwk).mono ?_; rintro e w' ⟨rfl, hw⟩; obtain rfl := hw.symm)
        | go_in)
      go_roundw
      case rel => exact ⟨k + 1, by omega, by go_num, by rw [← imageTo_step]; exact (hown.stored k _).1, hnx.setCell (Nat.le_refl _) _⟩
      case measure => simp [intOf]; omega
    · obtain rfl : k = M.sure.length := by omega
      go_wp2
      go_ret
      exact ⟨rfl, by rw [← imageTo_all]; exact hown, hnx⟩

end Go.Proofs.Ytfalchacdebdpaa
