/- The document's own answers for a file's bytes; a step's kind; a script's first steps. -/
import Derived.Test.YtdjnkibnnjobpaaGreatBop
namespace Go.Proofs.YtdjnkibnnjobpaaGreat
open Go.RowKit Go.Maps Go.ChangeMaps

theorem rzeros_any (n : Nat) (w : World) (hn : n ≤ 100000) :
    Calls Tryz.prog 48 #[.int .i64 n] w fun e w' => e = .returned (.string (Wd.mkB (fun _ => 0) n)) ∧ Below w.heap.size w w' := by
  obtain ⟨i0, hi, hz0, hz1, hz2⟩ := info_parts Tryz.extra105.infoByte
  go_enter Tryz.func48, Tryz.ntmps48
  go_wp2_with (at_make; refine wpList_make_full _ rfl _ _ 51 rfl w.heap.size 5 i0 (.int .u8 0) 1 Tryz.underlying51 hi hz0 hz1 _ _ _ _ n rfl rfl rfl rfl ?b2 ?b3 (Nat.le_refl _) ?_)
  case b2 => rw [hz2]; omega
  case b3 => unfold maxLen; omega
  intro w0 hown0 hgrow0
  have hnx : Below w.heap.size w w0 := (Below.refl _ _).grown hgrow0 (Nat.le_refl _) (fun k h => by cases h)
  have hp : Wd.part (fun _ => 0) n = Wd.part (fun _ => 0) 0 := by
    funext i
    unfold Wd.part
    split <;> split <;> rfl
  have hown : w0.ownsRow w.heap.size 5 1 (.slice (some ⟨w.heap.size, 0, none⟩) n n) n (Wd.rowB (Wd.part (fun _ => 0) n) n) := by rw [hp, ← Wd.made_bytes]; exact hown0
  have ht := Wd.row_text (fun _ => by omega) hown
  clear hown0 hgrow0 hown hp
  go_wp2
  go_ret
  exact ⟨rfl, hnx⟩

/-- The document's bytes behind a Write; behind a Cut; those that are read. -/
def docW (s : ByteArray) (at_ : Nat) (d : ByteArray) : ByteArray := Wd.mkB (fun i => if at_ ≤ i ∧ i < at_ + d.size then Wd.bAt d (i - at_) else Wd.bAt s i) (max s.size (at_ + d.size))
def docC (s : ByteArray) (size : Nat) : ByteArray := Wd.mkB (Wd.bAt s) size
def docR (s : ByteArray) (at_ n : Nat) : ByteArray := Wd.mkB (fun i => Wd.bAt s (at_ + i)) (min (at_ + n) s.size - at_)
theorem docW_lt (s : ByteArray) (at_ : Nat) (d : ByteArray) (i : Nat) : (if at_ ≤ i ∧ i < at_ + d.size then Wd.bAt d (i - at_) else Wd.bAt s i) < 256 := by
  split
  · exact Wd.bAt_lt _ _
  · exact Wd.bAt_lt _ _
theorem docW_size (s : ByteArray) (at_ : Nat) (d : ByteArray) : (docW s at_ d).size = max s.size (at_ + d.size) := Wd.mkB_size _ _
theorem docC_size (s : ByteArray) (n : Nat) : (docC s n).size = n := Wd.mkB_size _ _
theorem docW_at (s : ByteArray) (at_ : Nat) (d : ByteArray) (i : Nat) : Wd.bAt (docW s at_ d) i = if at_ ≤ i ∧ i < at_ + d.size then Wd.bAt d (i - at_) else Wd.bAt s i := by
  by_cases h : i < max s.size (at_ + d.size)
  · exact Wd.bAt_mkB _ (docW_lt s at_ d) _ _ h
  · rw [Wd.bAt_out _ _ (by rw [docW_size]; omega), if_neg (by omega), Wd.bAt_out _ _ (by omega)]
theorem docC_at (s : ByteArray) (n i : Nat) : Wd.bAt (docC s n) i = if n ≤ i then 0 else Wd.bAt s i := by
  by_cases h : n ≤ i
  · rw [if_pos h, Wd.bAt_out _ _ (by rw [docC_size]; exact h)]
  · rw [if_neg h]; exact Wd.bAt_mkB _ (Wd.bAt_lt s) _ _ (by omega)
/-- With zeros up to a place, if it is shorter. -/
def padS (s : ByteArray) (n : Nat) : ByteArray := if s.size < n then s ++ Wd.mkB (fun _ => 0) (n - s.size) else s
theorem padS_size (s : ByteArray) (n : Nat) : (padS s n).size = max s.size n := by
  unfold padS
  split
  · rw [ByteArray.size_append, Wd.mkB_size]; omega
  · omega
theorem padS_at (s : ByteArray) (n i : Nat) : Wd.bAt (padS s n) i = Wd.bAt s i := by
  unfold padS
  split
  · rw [Wd.bAt_append]
    by_cases h : i < s.size
    · rw [if_pos h]
    · rw [if_neg h, Wd.bAt_out s i (by omega)]
      by_cases h2 : i - s.size < n - s.size
      · exact Wd.bAt_mkB _ (fun _ => by omega) _ _ h2
      · exact Wd.bAt_out _ _ (by rw [Wd.mkB_size]; omega)
  · rfl
theorem pad_put (s : ByteArray) (at_ : Nat) (d : ByteArray) : Wd.putS (padS s (at_ + d.size)) at_ d = docW s at_ d := by
  have hz := padS_size s (at_ + d.size)
  have hp := Wd.putS_size (padS s (at_ + d.size)) at_ d (by omega)
  apply Wd.ext_bAt
  · rw [hp, hz, docW_size]
  · intro i hi
    rw [hp] at hi
    rw [Wd.putS_at _ _ _ (by omega) i hi, docW_at, padS_at]
theorem docC_short (s : ByteArray) (n : Nat) (h : n ≤ s.size) : s.extract 0 n = docC s n := by
  apply Wd.ext_bAt
  · rw [ByteArray.size_extract, docC_size]; omega
  · intro i hi
    rw [ByteArray.size_extract] at hi
    rw [Wd.bAt_extract _ _ _ _ h (by omega), Nat.zero_add, docC_at, if_neg (by omega)]
theorem docC_long (s : ByteArray) (n : Nat) (h : s.size ≤ n) : s ++ Wd.mkB (fun _ => 0) (n - s.size) = docC s n := by
  apply Wd.ext_bAt
  · rw [ByteArray.size_append, Wd.mkB_size, docC_size]; omega
  · intro i hi
    rw [ByteArray.size_append, Wd.mkB_size] at hi
    rw [docC_at, if_neg (by omega), Wd.bAt_append]
    by_cases h2 : i < s.size
    · rw [if_pos h2]
    · rw [if_neg h2, Wd.bAt_mkB _ (fun _ => by omega) _ _ (by omega), Wd.bAt_out s i (by omega)]
theorem docR_none (s : ByteArray) (at_ n : Nat) (h : s.size ≤ at_) : docR s at_ n = ⟨#[]⟩ := by
  apply Wd.ext_bAt
  · unfold docR
    rw [Wd.mkB_size]
    show _ = 0
    omega
  · intro i hi
    unfold docR at hi
    rw [Wd.mkB_size] at hi
    omega
theorem docR_some (s : ByteArray) (at_ n : Nat) (h : at_ < s.size) : s.extract at_ (min s.size (at_ + n)) = docR s at_ n := by
  apply Wd.ext_bAt
  · unfold docR
    rw [ByteArray.size_extract, Wd.mkB_size]; omega
  · intro i hi
    rw [ByteArray.size_extract] at hi
    unfold docR
    rw [Wd.bAt_extract _ _ _ _ (by omega) (by omega), Wd.bAt_mkB _ (fun j => Wd.bAt_lt s (at_ + j)) _ _ (by omega)]

set_option maxHeartbeats 2000000 in
set_option maxRecDepth 100000 in
theorem rcut_yes (s : ByteArray) (n : Nat) (w : World) (hs : s.size ≤ 2688) (hn : n ≤ 2688) :
    Calls Tryz.prog 24 #[.string s, .int .i64 n] w fun e w' => e = .returned (.tuple #[.string (docC s n), .int .i64 0]) ∧ Below w.heap.size w w' := by
  have hn2 : ¬ (2688 : Int) < (n : Int) := by omega
  by_cases h : n ≤ s.size
  · rw [← docC_short s n h]
    have h' : (n : Int) ≤ (s.size : Int) := by omega
    clear hn hs
    go_enter Tryz.func24, Tryz.ntmps24
    go_wp2
    go_ret2
    exact ⟨rfl, Below.refl _ _⟩
  · rw [← docC_long s n (by omega)]
    have h' : ¬ (n : Int) ≤ (s.size : Int) := by omega
    have hs2 : (n : Int) - (s.size : Int) = ((n - s.size : Nat) : Int) := by omega
    have hz : s.size + (Wd.mkB (fun _ => 0) (n - s.size)).size ≤ 9223372036854775807 := by rw [Wd.mkB_size]; omega
    have HZ : Hid (∀ w1, Calls Tryz.prog 48 #[.int .i64 ((n : Int) - (s.size : Int))] w1 fun e w' => e = .returned (.string (Wd.mkB (fun _ => 0) (n - s.size))) ∧ Below w1.heap.size w1 w') := fun w1 => by
      rw [hs2]; exact rzeros_any (n - s.size) w1 (by omega)
    have hwr : IntKind.i64.wrap ((n : Int) - (s.size : Int)) = (n : Int) - (s.size : Int) := by rw [IntKind.wrap_i64]; omega
    clear hs2 hn hs
    obtain ⟨z, hze⟩ : ∃ z, Wd.mkB (fun _ => 0) (n - s.size) = z := ⟨_, rfl⟩
    rw [hze] at HZ hz ⊢
    clear hze
    go_enter Tryz.func24, Tryz.ntmps24
    go_wp2_with (first
      | (go_at_call 48; refine Calls.mono (HZ.out _) ?_; rintro e w1 ⟨rfl, hb⟩)
      | go_in)
    go_ret2
    exact ⟨rfl, hb⟩
theorem rcut_neg (s : ByteArray) (n : Int) (w : World) (hn : n < 0) :
    Calls Tryz.prog 24 #[.string s, .int .i64 n] w fun e w' => e = .returned (.tuple #[.string ⟨#[]⟩, .int .i64 1]) ∧ Below w.heap.size w w' := by
  go_enter Tryz.func24, Tryz.ntmps24
  go_wp2
  go_ret2
  exact ⟨rfl, Below.refl _ _⟩
theorem rcut_far (s : ByteArray) (n : Int) (w : World) (hn : 2688 < n) :
    Calls Tryz.prog 24 #[.string s, .int .i64 n] w fun e w' => e = .returned (.tuple #[.string ⟨#[]⟩, .int .i64 10]) ∧ Below w.heap.size w w' := by
  have h0 : ¬ n < 0 := by omega
  go_enter Tryz.func24, Tryz.ntmps24
  go_wp2
  go_ret2
  exact ⟨rfl, Below.refl _ _⟩
set_option maxHeartbeats 2000000 in
theorem rread_yes (s : ByteArray) (at_ n : Nat) (w : World) (hs : s.size ≤ 2688) (hn : n ≤ 4096) (ha : at_ ≤ 9223372036854775807) :
    Calls Tryz.prog 25 #[.string s, .int .i64 at_, .int .i64 n] w fun e w' => e = .returned (.tuple #[.string (docR s at_ n), .int .i64 0]) ∧ Below w.heap.size w w' := by
  have hn2 : ¬ (4096 : Int) < (n : Int) := by omega
  by_cases h : s.size ≤ at_
  · rw [docR_none s at_ n h]
    have h' : (s.size : Int) ≤ (at_ : Int) := by omega
    go_enter Tryz.func25, Tryz.ntmps25
    go_wp2
    go_ret2
    exact ⟨rfl, Below.refl _ _⟩
  · rw [← docR_some s at_ n (by omega)]
    have h' : ¬ (s.size : Int) ≤ (at_ : Int) := by omega
    have hmn : min (s.size : Int) ((at_ : Int) + (n : Int)) = ((min s.size (at_ + n) : Nat) : Int) := by omega
    obtain ⟨q, hq⟩ : ∃ q, min s.size (at_ + n) = q := ⟨_, rfl⟩
    have hq1 : (at_ : Int) ≤ (q : Int) := by omega
    have hq2 : (q : Int) ≤ (s.size : Int) := by omega
    rw [hq] at hmn ⊢
    clear hq
    go_enter Tryz.func25, Tryz.ntmps25
    go_wp2
    go_ret2
    exact ⟨rfl, Below.refl _ _⟩
theorem rread_arg (s : ByteArray) (at_ n : Int) (w : World) (ha : at_ < 0 ∨ n < 0 ∨ 4096 < n) :
    Calls Tryz.prog 25 #[.string s, .int .i64 at_, .int .i64 n] w fun e w' => e = .returned (.tuple #[.string ⟨#[]⟩, .int .i64 1]) ∧ Below w.heap.size w w' := by
  by_cases a0 : at_ < 0
  · clear ha
    go_enter Tryz.func25, Tryz.ntmps25
    go_wp2
    go_ret2
    exact ⟨rfl, Below.refl _ _⟩
  · by_cases b0 : n < 0
    · clear ha
      go_enter Tryz.func25, Tryz.ntmps25
      go_wp2
      go_ret2
      exact ⟨rfl, Below.refl _ _⟩
    · have c0 : 4096 < n := by omega
      clear ha
      go_enter Tryz.func25, Tryz.ntmps25
      go_wp2
      go_ret2
      exact ⟨rfl, Below.refl _ _⟩
theorem rwrite_neg (s : ByteArray) (at_ : Int) (d : ByteArray) (w : World) (ha : at_ < 0) :
    Calls Tryz.prog 22 #[.string s, .int .i64 at_, .string d] w fun e w' => e = .returned (.tuple #[.string ⟨#[]⟩, .int .i64 1]) ∧ Below w.heap.size w w' := by
  go_enter Tryz.func22, Tryz.ntmps22
  go_wp2
  go_ret2
  exact ⟨rfl, Below.refl _ _⟩
theorem rwrite_long (s : ByteArray) (at_ : Int) (d : ByteArray) (w : World) (ha : 0 ≤ at_) (hd : 400 < d.size) :
    Calls Tryz.prog 22 #[.string s, .int .i64 at_, .string d] w fun e w' => e = .returned (.tuple #[.string ⟨#[]⟩, .int .i64 1]) ∧ Below w.heap.size w w' := by
  have h0 : ¬ at_ < 0 := by omega
  have hd4 : (400 : Int) < (d.size : Int) := by omega
  go_enter Tryz.func22, Tryz.ntmps22
  go_wp2
  go_ret2
  exact ⟨rfl, Below.refl _ _⟩
theorem rwrite_none (s : ByteArray) (at_ : Int) (d : ByteArray) (w : World) (ha : 0 ≤ at_) (hd : d.size = 0) :
    Calls Tryz.prog 22 #[.string s, .int .i64 at_, .string d] w fun e w' => e = .returned (.tuple #[.string s, .int .i64 0]) ∧ Below w.heap.size w w' := by
  have h0 : ¬ at_ < 0 := by omega
  have hd4 : ¬ (400 : Int) < (d.size : Int) := by omega
  have hdnil : d.toList = [] := by
    rw [ByteArray.toList_eq]
    have h3 : d.data.toList.length = 0 := by rw [Array.length_toList]; exact hd
    exact List.length_eq_zero_iff.1 h3
  have hdie : d.toList.isEmpty = true := by simpa using hdnil
  go_enter Tryz.func22, Tryz.ntmps22
  go_wp2
  go_ret2
  exact ⟨rfl, Below.refl _ _⟩
theorem rwrite_far (s : ByteArray) (at_ : Int) (d : ByteArray) (w : World) (ha : 0 ≤ at_) (hd0 : 0 < d.size) (hd : d.size ≤ 400) (hE : 2688 - (d.size : Int) < at_) :
    Calls Tryz.prog 22 #[.string s, .int .i64 at_, .string d] w fun e w' => e = .returned (.tuple #[.string ⟨#[]⟩, .int .i64 10]) ∧ Below w.heap.size w w' := by
  have h0 : ¬ at_ < 0 := by omega
  have hd4 : ¬ (400 : Int) < (d.size : Int) := by omega
  have hdne : ¬ d.toList = [] := not_nil hd0
  have hdie : d.toList.isEmpty = false := by simpa using hdne
  go_enter Tryz.func22, Tryz.ntmps22
  go_wp2
  go_ret2
  exact ⟨rfl, Below.refl _ _⟩

end Go.Proofs.YtdjnkibnnjobpaaGreat
