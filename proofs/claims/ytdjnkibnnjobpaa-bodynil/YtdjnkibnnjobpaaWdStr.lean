/- Texts as bytes: what slices and joins of texts are; words of a text and back. Nothing of the program. -/
import Derived.Test.YtdjnkibnnjobpaaWdText
import Derived.Lib.RepeatB
namespace Go.Proofs.Ytdjnkibnnjobpaa.Wd
open Go.RowKit

theorem bAt_out (s : ByteArray) (i : Nat) (h : s.size ≤ i) : bAt s i = 0 := by unfold bAt; rw [dif_neg (by omega)]
theorem byte_tw (b : Nat → Nat) (hb : ∀ k, b k < 256) (k i : Nat) : byteF (tw b k) i = if i < k then b i else 0 := by
  refine Nat.eq_of_testBit_eq fun t => ?_
  unfold byteF
  rw [getN_bit, tw_bit b hb]
  by_cases ht : t < 8
  · have e1 : i % 8 * 8 + t < 64 := by omega
    have e2 : 8 * (i / 8) + (i % 8 * 8 + t) / 8 = i := by omega
    have e3 : (i % 8 * 8 + t) % 8 = t := by omega
    rw [e2, e3]
    by_cases hk : i < k
    · simp [ht, e1, hk]
    · simp [hk]
  · by_cases hk : i < k
    · rw [if_pos hk, byte_bit _ _ (hb i) (by omega)]; simp [ht]
    · rw [if_neg hk]; simp [ht]
theorem byte_text (s : ByteArray) (i : Nat) : byteF (tw (bAt s) s.size) i = bAt s i := by
  rw [byte_tw (bAt s) (bAt_lt s)]
  split
  · rfl
  · rw [bAt_out s i (by omega)]
theorem mkB_size (f : Nat → Nat) (n : Nat) : (mkB f n).size = n := by
  show (listB f n).toArray.size = n
  simp [listB_len]
theorem mkB_at (f : Nat → Nat) (hf : ∀ i, f i < 256) (n i : Nat) (h : i < (mkB f n).size) : ((mkB f n)[i]).toNat = f i := by
  rw [mkB_size] at h
  have := listB_at f hf n i (by rw [listB_len]; exact h)
  rw [← this]
  rfl
theorem bAt_mkB (f : Nat → Nat) (hf : ∀ i, f i < 256) (n i : Nat) (h : i < n) : bAt (mkB f n) i = f i := by
  rw [bAt_eq _ _ (by rw [mkB_size]; exact h), mkB_at f hf]
theorem ext_bAt (a b : ByteArray) (h : a.size = b.size) (he : ∀ i, i < a.size → bAt a i = bAt b i) : a = b := by
  apply ByteArray.ext
  apply Array.ext
  · exact h
  · intro i h1 h2
    have h3 := he i h1
    rw [bAt_eq a i h1, bAt_eq b i h2] at h3
    exact UInt8.toNat_inj.1 h3
theorem mkB_bAt (s : ByteArray) : mkB (bAt s) s.size = s :=
  ext_bAt _ _ (mkB_size _ _) fun i hi => bAt_mkB _ (bAt_lt s) _ _ (by rwa [mkB_size] at hi)
theorem mkB_congr {f g : Nat → Nat} {n : Nat} (h : ∀ i, i < n → f i = g i) : mkB f n = mkB g n := by
  unfold mkB listB
  congr 2
  exact List.map_congr_left fun i hi => by rw [h i (List.mem_range.1 hi)]
theorem ext_mkB {s : ByteArray} {f : Nat → Nat} {n : Nat} (hf : ∀ i, f i < 256) (h : s.size = n) (he : ∀ i, i < n → bAt s i = f i) : s = mkB f n :=
  ext_bAt _ _ (by rw [mkB_size]; exact h) fun i hi => by rw [he i (by omega), bAt_mkB f hf n i (by omega)]
theorem bAt_extract (s : ByteArray) (a b i : Nat) (hb : b ≤ s.size) (hi : a + i < b) : bAt (s.extract a b) i = bAt s (a + i) := by
  rw [bAt_eq _ _ (by rw [ByteArray.size_extract]; omega), bAt_eq _ _ (by omega), ByteArray.getElem_extract]
theorem bAt_append (s t : ByteArray) (i : Nat) : bAt (s ++ t) i = if i < s.size then bAt s i else bAt t (i - s.size) := by
  by_cases h : i < s.size
  · rw [if_pos h, bAt_eq _ _ (by rw [ByteArray.size_append]; omega), bAt_eq _ _ h, ByteArray.getElem_append_left]
  · rw [if_neg h]
    by_cases h2 : i < s.size + t.size
    · rw [bAt_eq _ _ (by rw [ByteArray.size_append]; omega), bAt_eq _ _ (by omega), ByteArray.getElem_append_right (by omega)]
    · rw [bAt_out _ _ (by rw [ByteArray.size_append]; omega), bAt_out _ _ (by omega)]
theorem zero_text (n : Nat) : (⟨(Lib.repeatL (ByteArray.mk #[0]).data.toList n).toArray⟩ : ByteArray) = mkB (fun _ => 0) n := by
  unfold mkB listB
  congr 2
  have e : (ByteArray.mk #[0]).data.toList = List.replicate 1 (0 : UInt8) := rfl
  rw [e, Lib.repeatL_replicate, Nat.mul_one]
  apply List.ext_getElem
  · simp
  · intro i h1 h2
    simp

/-- A text with other bytes from one on. -/
def putS (s : ByteArray) (k : Nat) (d : ByteArray) : ByteArray := s.extract 0 k ++ d ++ s.extract (k + d.size) s.size
theorem putS_size (s : ByteArray) (k : Nat) (d : ByteArray) (h : k + d.size ≤ s.size) : (putS s k d).size = s.size := by
  unfold putS
  rw [ByteArray.size_append, ByteArray.size_append, ByteArray.size_extract, ByteArray.size_extract]
  omega
theorem putS_at (s : ByteArray) (k : Nat) (d : ByteArray) (h : k + d.size ≤ s.size) (i : Nat) (hi : i < s.size) : bAt (putS s k d) i = if k ≤ i ∧ i < k + d.size then bAt d (i - k) else bAt s i := by
  unfold putS
  rw [bAt_append, bAt_append, ByteArray.size_append, ByteArray.size_extract]
  have e : min k s.size - 0 = k := by omega
  rw [e]
  by_cases h1 : i < k
  · rw [if_pos (by omega), if_pos h1, if_neg (by omega), bAt_extract _ _ _ _ (by omega) (by omega), Nat.zero_add]
  · by_cases h2 : i < k + d.size
    · rw [if_pos h2, if_neg h1, if_pos ⟨by omega, h2⟩]
    · rw [if_neg h2, if_neg (by omega), bAt_extract _ _ _ _ (Nat.le_refl _) (by omega)]
      congr 1
      omega

end Go.Proofs.Ytdjnkibnnjobpaa.Wd
