/- Proved: for every text, number and slice of words, 'WordsTextBack' returns true and its arguments read afterwards as before. No condition. -/
import Derived.Test.YtbalicoebnplmaaRows
import Derived.Test.YtbalicoebnplmaaGen
import Derived.ProofKit
import Derived.OpenShut
import Derived.ShutString
import Derived.SizedLaws
namespace Go.Proofs.Ytbalicoebnplmaa.wordsTextBack
open Go.ChangeShapes Go.WideShapes Go.ChangeAt Go.RowKit
open Go.ChangeMaps (open_string shut_string)
set_option linter.unusedVariables false

theorem own : ownKnob Try.prog.godebug = none := by kernel_rfl
theorem laidOut : laidOutB Try.prog = true := by kernel_rfl
theorem bytes22 : Try.prog.bytesOf 22 = 8 := by kernel_rfl

theorem isW_of {w : World} {x : Addr} {len cap : Nat} {zs : List Int} (hl : len ≤ cap) (hz : zs.length = cap) (hc : ∀ i, i < zs.length → w.cell? (x.add i) = some (.int .u64 (zs.getD i 0))) (hw : ∀ n ∈ zs, (Lit.int .u64 n).wf = true) :
    IsW w (.slice (some x) len cap) len fun j => (zs.getD j 0).toNat := by
  refine ⟨_, _, rfl, ?_⟩
  by_cases h0 : len = 0
  · exact .inl h0
  · obtain ⟨b, off, rfl, hcell⟩ := ints_at hc (by omega)
    refine .inr ⟨b, off, rfl, cell_block (hcell 0 (by omega)), fun j hj => ?_⟩
    rw [hcell j (by omega)]
    have := range_u64 hw j
    rw [← List.getD_eq_getElem?_getD] at this
    rw [Int.toNat_of_nonneg this.1]

theorem bAt_out (s : ByteArray) (i : Nat) (h : s.size ≤ i) : bAt s i = 0 := by unfold bAt; rw [dif_neg (by omega)]

theorem byte_tw (b : Nat → Nat) (hb : ∀ k, b k < 256) (k i : Nat) : byteF (tw b k) i = if i < k then b i else 0 := by
  refine Nat.eq_of_testBit_eq fun t => ?_
  unfold byteF
  rw [getN_bit, tw_bit b hb]
  by_cases ht : t < 8
  · have e1 : i % 8 * 8 + t < 64 := by omega
    have e2 : 8 * (i / 8) + (i % 8 * 8 + t) / 8 = i := by omega
    have e3 : (i % 8 * 8 + t) % 8 = t := by omega
    rw [e2, e3]
    by_cases hk : i < k
    · simp [ht, e1, hk]
    · simp [hk]
  · by_cases hk : i < k
    · rw [if_pos hk, byte_bit _ _ (hb i) (by omega)]; simp [ht]
    · rw [if_neg hk]; simp [ht]

theorem byte_text (s : ByteArray) (i : Nat) : byteF (tw (bAt s) s.size) i = bAt s i := by
  rw [byte_tw (bAt s) (bAt_lt s)]
  split
  · rfl
  · rw [bAt_out s i (by omega)]

theorem mkB_size (f : Nat → Nat) (n : Nat) : (mkB f n).size = n := by
  show (listB f n).toArray.size = n
  simp [listB_len]
theorem mkB_at (f : Nat → Nat) (hf : ∀ i, f i < 256) (n i : Nat) (h : i < (mkB f n).size) : ((mkB f n)[i]).toNat = f i := by
  rw [mkB_size] at h
  have := listB_at f hf n i (by rw [listB_len]; exact h)
  rw [← this]
  rfl
theorem bAt_mkB (f : Nat → Nat) (hf : ∀ i, f i < 256) (n i : Nat) (h : i < n) : bAt (mkB f n) i = f i := by
  rw [bAt_eq _ _ (by rw [mkB_size]; exact h), mkB_at f hf]

theorem tw_bytes (g : Nat → Nat) (hg : ∀ j, g j < 2 ^ 64) (m j : Nat) (hj : j < m) : tw (bAt (mkB (byteF g) (8 * m))) (8 * m) j = g j := by
  refine Nat.eq_of_testBit_eq fun i => ?_
  rw [tw_bit _ (bAt_lt _)]
  by_cases hi : i < 64
  · have e0 : 8 * j + i / 8 < 8 * m := by omega
    have e1 : (8 * j + i / 8) / 8 = j := by omega
    have e2 : (8 * j + i / 8) % 8 * 8 + i % 8 = i := by omega
    have e3 : i % 8 < 8 := by omega
    rw [bAt_mkB _ (byteF_lt g) _ _ e0]
    unfold byteF
    rw [getN_bit, e1, e2]
    simp [hi, e0, e3]
  · have e : (g j).testBit i = false := Nat.testBit_lt_two_pow (Nat.lt_of_lt_of_le (hg j) (Nat.pow_le_pow_right (by omega) (by omega)))
    rw [e]; simp [hi]

theorem ext_bAt (a b : ByteArray) (h : a.size = b.size) (he : ∀ i, i < a.size → bAt a i = bAt b i) : a = b := by
  apply ByteArray.ext
  apply Array.ext
  · exact h
  · intro i h1 h2
    have h3 := he i h1
    rw [bAt_eq a i h1, bAt_eq b i h2] at h3
    exact UInt8.toNat_inj.1 h3

theorem extract_text (s : ByteArray) (f : Nat → Nat) (hf : ∀ i, f i < 256) (N : Nat) (hs : s.size ≤ N) (he : ∀ i, i < s.size → f i = bAt s i) : (mkB f N).extract 0 s.size = s := by
  apply ext_bAt
  · rw [ByteArray.size_extract, mkB_size]; omega
  · intro i hi
    rw [ByteArray.size_extract, mkB_size] at hi
    have h1 : i < s.size := by omega
    rw [bAt_eq _ _ (by rw [ByteArray.size_extract, mkB_size]; omega), ByteArray.getElem_extract]
    have h2 := mkB_at f hf N (0 + i) (by rw [mkB_size]; omega)
    rw [h2, Nat.zero_add, he i h1]

theorem back_text (s : ByteArray) (N : Nat) (hN : N ≤ 64) (hs : s.size ≤ 8 * N) :
    ∃ t : ByteArray, uText (tw (bAt s) s.size) N (8 * (N : Int)) = t ∧ uErr N (8 * (N : Int)) = 0 ∧ t.size = 8 * N ∧ t.extract 0 s.size = s ∧ ∀ i, s.size ≤ i → (h : i < t.size) → t[i].toNat = 0 := by
  have hf : ∀ i, byteF (tw (bAt s) s.size) i < 256 := byteF_lt _
  refine ⟨mkB (byteF (tw (bAt s) s.size)) (8 * N), ?_, ?_, mkB_size _ _, extract_text s _ hf _ hs (fun i _ => byte_text s i), fun i hi h => ?_⟩
  · unfold uText
    rw [if_neg (by omega)]
    congr 1
  · unfold uErr; rw [if_neg (by omega)]
  · rw [mkB_at _ hf, byte_text, bAt_out s i hi]

theorem again_text (g : Nat → Nat) (hg : ∀ j, g j < 2 ^ 64) (m : Nat) (n : Int) (hn : n = 8 * (m : Int)) (hm : m ≤ 64) :
    ∃ u : ByteArray, uText g m n = u ∧ uErr m n = 0 ∧ tErr u m = 0 ∧ tLen u m = m ∧ ∀ j, j < m → tw (bAt u) u.size j = g j := by
  subst hn
  have e1 : tErr (mkB (byteF g) (8 * m)) m = 0 := by unfold tErr; rw [mkB_size, if_neg (by omega), if_neg (by omega)]
  refine ⟨mkB (byteF g) (8 * m), ?_, ?_, e1, ?_, fun j hj => ?_⟩
  · unfold uText
    rw [if_neg (by omega)]
    congr 1
  · unfold uErr; rw [if_neg (by omega)]
  · unfold tLen; rw [if_pos e1, Int.toNat_natCast]
  · rw [mkB_size]; exact tw_bytes g hg m j hj

theorem isW_congr {w : World} {v : Value} {n : Nat} {f g : Nat → Nat} (h : IsW w v n f) (e : ∀ j, j < n → f j = g j) : IsW w v n g := by
  obtain ⟨ao, cap, rfl, h⟩ := h
  refine ⟨ao, cap, rfl, ?_⟩
  rcases h with h | ⟨b, off, rfl, hlt, hc⟩
  · exact .inl h
  · exact .inr ⟨b, off, rfl, hlt, fun j hj => by rw [hc j hj, e j hj]⟩

theorem isW_cut {w : World} {a : Option Addr} {n m cap : Nat} {g : Nat → Nat} (h : IsW w (.slice a n cap) n g) (hm : m ≤ n) : IsW w (.slice a m cap) m g := by
  obtain ⟨ao, c, he, h⟩ := h
  simp only [Value.slice.injEq] at he
  obtain ⟨rfl, _, rfl⟩ := he
  refine ⟨_, _, rfl, ?_⟩
  rcases h with h | ⟨b, off, rfl, hlt, hc⟩
  · exact .inl (by omega)
  · exact .inr ⟨b, off, rfl, hlt, fun j hj => hc j (by omega)⟩

set_option maxHeartbeats 1000000 in
theorem walk_ys (s : ByteArray) (N : Nat) (a2 : Option Addr) (len cap : Nat) (g : Nat → Nat) (w : World) (hg : ∀ j, g j < 2 ^ 64) (hW : IsW w (.slice a2 len cap) len g) (hlen : len * 8 ≤ 140737488351232) (hlc : len ≤ cap) (hN : N ≤ 64) (hs : s.size ≤ 8 * N) (h64 : len ≤ 64) :
    Calls Try.prog 6 #[.string s, .int .i64 N, .slice a2 len cap] w fun e w' => e = .returned (.bool true) ∧ Below w.heap.size w w' := by
  obtain ⟨u, HT2, HU2, F1, F2, hu⟩ := again_text g hg len (8 * (len : Int)) rfl (by omega)
  have HUA2 := fun v w => untext_all v len g (8 * (len : Int)) w
  rw [HT2, HU2] at HUA2
  have HUB2 : ∀ (v : Value) (w : World), Hid _ := HUA2
  have HTA2 := text_all u (len : Int)
  rw [F1, F2] at HTA2
  have HTB2 : ∀ w, Hid _ := HTA2
  have HUU : Hid _ := hu
  clear HUA2 HTA2 HT2 HU2 F1 F2 hu
  obtain ⟨t, HT, HU, hts, hext, hz⟩ := back_text s N hN hs
  have E1 : tErr s N = 0 := by unfold tErr; rw [if_neg (by omega), if_neg (by omega)]
  have E2 : tLen s N = N := by unfold tLen; rw [if_pos E1, Int.toNat_natCast]
  have HTA := text_all s N
  rw [E1, E2] at HTA
  have HTB : ∀ w, Hid _ := HTA
  have HUA := fun v w => untext_all v N (tw (bAt s) s.size) (8 * (N : Int)) w
  rw [HT, HU] at HUA
  have HUB : ∀ (v : Value) (w : World), Hid _ := HUA
  clear HTA HUA E1 E2 HT HU
  have HZ : Hid _ := hz
  clear hz
  go_enter Try.func6, Try.ntmps6
  go_wp2_with fail
  refine (lives_any _).mono ?_
  rintro e w1 ⟨rfl, hb1⟩
  go_wp2_with fail
  refine Calls.mono (Hid.out (HTB _)) ?_
  rintro e w2 ⟨va, rfl, hva, hb2⟩
  go_wp2_with fail
  refine Calls.mono (Hid.out (HUB _ _) (by omega) (tw_lt _ (bAt_lt s) _) hva) ?_
  rintro e w3 ⟨rfl, hb3⟩
  go_wp2
  have c3 := below_chain (below_chain hb1 hb2) hb3
  have hW3 := hW.later c3
  clear hb1 hb2 hb3 hva hW
  go_loop [11] (fun i => ∃ k : Nat, s.size ≤ k ∧ k ≤ t.size ∧ i = .int .i64 k) (fun i => t.size - (intOf i).toNat)
  case atStart => exact ⟨s.size, Nat.le_refl _, by omega, rfl⟩
  case round =>
    obtain ⟨k, hk1, hk2, rfl⟩ := hrel
    by_cases hlt : k < t.size
    · have hzk : t[k].toNat = 0 := HZ.out k hk1 hlt
      go_wp2
      go_round
      case rel => exact ⟨k + 1, by omega, by omega, by go_num⟩
      case measure => simp [intOf]; omega
    · have hWm : IsW w3 (.slice a2 len cap) len g := hW3
      clear hW3
      go_wp2_with fail
      refine Calls.mono (Hid.out (HUB2 _ _) (by omega) hg hWm) ?_
      rintro e w4 ⟨rfl, hb4⟩
      have hW4 := hWm.later hb4
      have c4 := below_chain c3 hb4
      clear hWm hb4 c3
      go_wp2_with fail
      refine Calls.mono (Hid.out (HTB2 _)) ?_
      rintro e w5 ⟨vb, rfl, hvb, hb5⟩
      have hW5 := hW4.later hb5
      have c5 := below_chain c4 hb5
      have hvb' := isW_congr hvb HUU.out
      clear hW4 hb5 c4 hvb
      go_wp2_with fail
      refine (same_all vb _ _ g _ (by omega) hvb' hW5).mono ?_
      rintro e w6 ⟨rfl, hb6⟩
      have c6 := below_chain c5 hb6
      clear hb6 c5
      go_wp2
      go_ret
      exact ⟨rfl, c6⟩

set_option maxHeartbeats 1000000 in
theorem walk_yl (s : ByteArray) (N : Nat) (a2 : Option Addr) (len cap : Nat) (g : Nat → Nat) (w : World) (hg : ∀ j, g j < 2 ^ 64) (hW : IsW w (.slice a2 len cap) len g) (hlen : len * 8 ≤ 140737488351232) (hlc : len ≤ cap) (hN : N ≤ 64) (hs : s.size ≤ 8 * N) (h64 : 64 < len) :
    Calls Try.prog 6 #[.string s, .int .i64 N, .slice a2 len cap] w fun e w' => e = .returned (.bool true) ∧ Below w.heap.size w w' := by
  obtain ⟨u, HT2, HU2, F1, F2, hu⟩ := again_text g hg 64 512 (by omega) (by omega)
  have HUA2 := fun v w => untext_all v 64 g 512 w
  rw [HT2, HU2] at HUA2
  have HUB2 : ∀ (v : Value) (w : World), Hid _ := HUA2
  have HTA2 := text_all u 64
  rw [show tErr u 64 = 0 from F1, show tLen u 64 = 64 from F2] at HTA2
  have HTB2 : ∀ w, Hid _ := HTA2
  have HUU : Hid _ := hu
  clear HUA2 HTA2 HT2 HU2 F1 F2 hu
  obtain ⟨t, HT, HU, hts, hext, hz⟩ := back_text s N hN hs
  have E1 : tErr s N = 0 := by unfold tErr; rw [if_neg (by omega), if_neg (by omega)]
  have E2 : tLen s N = N := by unfold tLen; rw [if_pos E1, Int.toNat_natCast]
  have HTA := text_all s N
  rw [E1, E2] at HTA
  have HTB : ∀ w, Hid _ := HTA
  have HUA := fun v w => untext_all v N (tw (bAt s) s.size) (8 * (N : Int)) w
  rw [HT, HU] at HUA
  have HUB : ∀ (v : Value) (w : World), Hid _ := HUA
  clear HTA HUA E1 E2 HT HU
  have HZ : Hid _ := hz
  clear hz
  go_enter Try.func6, Try.ntmps6
  go_wp2_with fail
  refine (lives_any _).mono ?_
  rintro e w1 ⟨rfl, hb1⟩
  go_wp2_with fail
  refine Calls.mono (Hid.out (HTB _)) ?_
  rintro e w2 ⟨va, rfl, hva, hb2⟩
  go_wp2_with fail
  refine Calls.mono (Hid.out (HUB _ _) (by omega) (tw_lt _ (bAt_lt s) _) hva) ?_
  rintro e w3 ⟨rfl, hb3⟩
  go_wp2
  have c3 := below_chain (below_chain hb1 hb2) hb3
  have hW3 := hW.later c3
  clear hb1 hb2 hb3 hva hW
  go_loop [11] (fun i => ∃ k : Nat, s.size ≤ k ∧ k ≤ t.size ∧ i = .int .i64 k) (fun i => t.size - (intOf i).toNat)
  case atStart => exact ⟨s.size, Nat.le_refl _, by omega, rfl⟩
  case round =>
    obtain ⟨k, hk1, hk2, rfl⟩ := hrel
    by_cases hlt : k < t.size
    · have hzk : t[k].toNat = 0 := HZ.out k hk1 hlt
      go_wp2
      go_round
      case rel => exact ⟨k + 1, by omega, by omega, by go_num⟩
      case measure => simp [intOf]; omega
    · have hWm : IsW w3 (.slice a2 64 cap) 64 g := (isW_cut hW3 (show 64 ≤ len by omega))
      clear hW3
      go_wp2_with fail
      refine Calls.mono (Hid.out (HUB2 _ _) (by omega) hg hWm) ?_
      rintro e w4 ⟨rfl, hb4⟩
      have hW4 := hWm.later hb4
      have c4 := below_chain c3 hb4
      clear hWm hb4 c3
      go_wp2_with fail
      refine Calls.mono (Hid.out (HTB2 _)) ?_
      rintro e w5 ⟨vb, rfl, hvb, hb5⟩
      have hW5 := hW4.later hb5
      have c5 := below_chain c4 hb5
      have hvb' := isW_congr hvb HUU.out
      clear hW4 hb5 c4 hvb
      go_wp2_with fail
      refine (same_all vb _ _ g _ (by omega) hvb' hW5).mono ?_
      rintro e w6 ⟨rfl, hb6⟩
      have c6 := below_chain c5 hb6
      clear hb6 c5
      go_wp2
      go_ret
      exact ⟨rfl, c6⟩

set_option maxHeartbeats 1000000 in
theorem walk_ns (s : ByteArray) (n : Int) (a2 : Option Addr) (len cap : Nat) (g : Nat → Nat) (w : World) (hg : ∀ j, g j < 2 ^ 64) (hW : IsW w (.slice a2 len cap) len g) (hlen : len * 8 ≤ 140737488351232) (hlc : len ≤ cap) (hne : tErr s n ≠ 0) (h64 : len ≤ 64) :
    Calls Try.prog 6 #[.string s, .int .i64 n, .slice a2 len cap] w fun e w' => e = .returned (.bool true) ∧ Below w.heap.size w w' := by
  obtain ⟨u, HT2, HU2, F1, F2, hu⟩ := again_text g hg len (8 * (len : Int)) rfl (by omega)
  have HUA2 := fun v w => untext_all v len g (8 * (len : Int)) w
  rw [HT2, HU2] at HUA2
  have HUB2 : ∀ (v : Value) (w : World), Hid _ := HUA2
  have HTA2 := text_all u (len : Int)
  rw [F1, F2] at HTA2
  have HTB2 : ∀ w, Hid _ := HTA2
  have HUU : Hid _ := hu
  clear HUA2 HTA2 HT2 HU2 F1 F2 hu
  have HTB : ∀ w, Hid _ := text_all s n
  have hneb : (tErr s n == 0) = false := by simp [hne]
  clear hne
  go_enter Try.func6, Try.ntmps6
  go_wp2_with fail
  refine (lives_any _).mono ?_
  rintro e w1 ⟨rfl, hb1⟩
  go_wp2_with fail
  refine Calls.mono (Hid.out (HTB _)) ?_
  rintro e w3 ⟨va, rfl, hva, hb2⟩
  have c3 := below_chain hb1 hb2
  have hW3 := hW.later c3
  clear hb1 hb2 hva hW
  have hWm : IsW w3 (.slice a2 len cap) len g := hW3
  clear hW3
  go_wp2_with fail
  refine Calls.mono (Hid.out (HUB2 _ _) (by omega) hg hWm) ?_
  rintro e w4 ⟨rfl, hb4⟩
  have hW4 := hWm.later hb4
  have c4 := below_chain c3 hb4
  clear hWm hb4 c3
  go_wp2_with fail
  refine Calls.mono (Hid.out (HTB2 _)) ?_
  rintro e w5 ⟨vb, rfl, hvb, hb5⟩
  have hW5 := hW4.later hb5
  have c5 := below_chain c4 hb5
  have hvb' := isW_congr hvb HUU.out
  clear hW4 hb5 c4 hvb
  go_wp2_with fail
  refine (same_all vb _ _ g _ (by omega) hvb' hW5).mono ?_
  rintro e w6 ⟨rfl, hb6⟩
  have c6 := below_chain c5 hb6
  clear hb6 c5
  go_wp2
  go_ret
  exact ⟨rfl, c6⟩

set_option maxHeartbeats 1000000 in
theorem walk_nl (s : ByteArray) (n : Int) (a2 : Option Addr) (len cap : Nat) (g : Nat → Nat) (w : World) (hg : ∀ j, g j < 2 ^ 64) (hW : IsW w (.slice a2 len cap) len g) (hlen : len * 8 ≤ 140737488351232) (hlc : len ≤ cap) (hne : tErr s n ≠ 0) (h64 : 64 < len) :
    Calls Try.prog 6 #[.string s, .int .i64 n, .slice a2 len cap] w fun e w' => e = .returned (.bool true) ∧ Below w.heap.size w w' := by
  obtain ⟨u, HT2, HU2, F1, F2, hu⟩ := again_text g hg 64 512 (by omega) (by omega)
  have HUA2 := fun v w => untext_all v 64 g 512 w
  rw [HT2, HU2] at HUA2
  have HUB2 : ∀ (v : Value) (w : World), Hid _ := HUA2
  have HTA2 := text_all u 64
  rw [show tErr u 64 = 0 from F1, show tLen u 64 = 64 from F2] at HTA2
  have HTB2 : ∀ w, Hid _ := HTA2
  have HUU : Hid _ := hu
  clear HUA2 HTA2 HT2 HU2 F1 F2 hu
  have HTB : ∀ w, Hid _ := text_all s n
  have hneb : (tErr s n == 0) = false := by simp [hne]
  clear hne
  go_enter Try.func6, Try.ntmps6
  go_wp2_with fail
  refine (lives_any _).mono ?_
  rintro e w1 ⟨rfl, hb1⟩
  go_wp2_with fail
  refine Calls.mono (Hid.out (HTB _)) ?_
  rintro e w3 ⟨va, rfl, hva, hb2⟩
  have c3 := below_chain hb1 hb2
  have hW3 := hW.later c3
  clear hb1 hb2 hva hW
  have hWm : IsW w3 (.slice a2 64 cap) 64 g := (isW_cut hW3 (show 64 ≤ len by omega))
  clear hW3
  go_wp2_with fail
  refine Calls.mono (Hid.out (HUB2 _ _) (by omega) hg hWm) ?_
  rintro e w4 ⟨rfl, hb4⟩
  have hW4 := hWm.later hb4
  have c4 := below_chain c3 hb4
  clear hWm hb4 c3
  go_wp2_with fail
  refine Calls.mono (Hid.out (HTB2 _)) ?_
  rintro e w5 ⟨vb, rfl, hvb, hb5⟩
  have hW5 := hW4.later hb5
  have c5 := below_chain c4 hb5
  have hvb' := isW_congr hvb HUU.out
  clear hW4 hb5 c4 hvb
  go_wp2_with fail
  refine (same_all vb _ _ g _ (by omega) hvb' hW5).mono ?_
  rintro e w6 ⟨rfl, hb6⟩
  have c6 := below_chain c5 hb6
  clear hb6 c5
  go_wp2
  go_ret
  exact ⟨rfl, c6⟩

theorem walk (s : ByteArray) (n : Int) (a2 : Option Addr) (len cap : Nat) (g : Nat → Nat) (w : World) (hs : s.size ≤ maxLen) (hn : -9223372036854775808 ≤ n ∧ n ≤ 9223372036854775807) (hg : ∀ j, g j < 2 ^ 64) (hW : IsW w (.slice a2 len cap) len g) (hlen : len * 8 ≤ 140737488351232) (hlc : len ≤ cap) :
    Calls Try.prog 6 #[.string s, .int .i64 n, .slice a2 len cap] w fun e w' => e = .returned (.bool true) ∧ Below w.heap.size w w' := by
  by_cases he : tErr s n = 0
  · have hh : 0 ≤ n ∧ n ≤ 64 ∧ (s.size : Int) ≤ 8 * n := by
      unfold tErr at he
      by_cases h1 : n < 0 ∨ 64 < n
      · rw [if_pos h1] at he; omega
      · by_cases h2 : 8 * n < (s.size : Int)
        · rw [if_neg h1, if_pos h2] at he; omega
        · omega
    obtain ⟨N, rfl⟩ := Int.eq_ofNat_of_zero_le hh.1
    by_cases h64 : len ≤ 64
    · exact walk_ys s N a2 len cap g w hg hW hlen hlc (by omega) (by omega) h64
    · exact walk_yl s N a2 len cap g w hg hW hlen hlc (by omega) (by omega) (by omega)
  · by_cases h64 : len ≤ 64
    · exact walk_ns s n a2 len cap g w hg hW hlen hlc he h64
    · exact walk_nl s n a2 len cap g w hg hW hlen hlc he (by omega)

set_option maxRecDepth 100000 in
theorem lifted (os : Os) (started : os.Started) (H : Type) (enc : TypeId × Value → H) :
    ReturnsInHanded {} Try.checked os 6 .any (Rows.wordsTextBackSpec.pre6 enc Try.prog Try.f6 Rows.wordsTextBackRow.domain false) (Rows.wordsTextBackSpec.post enc Try.prog Try.f6 false true false false) := by
  refine returnsInHanded_of_change_sized (C := Try.checked) own started (by kernel_rfl) Try.func6
    (ChangeSpec.witness6 (enc := enc) (C := Try.checked) false ⟨#[], #[.string ByteArray.empty, .int .i64 0, .slice none 0 0], []⟩ 8 (by kernel_rfl) (by kernel_rfl) (by kernel_rfl) (by kernel_rfl)) ?_
  intro W base args ds gs before hval0 hW hcnd hsz0 _
  have hval : ∀ (j : Nat) t v, Try.f6.params[j]? = some t → args[j]? = some v → Value.okWide Try.prog W .any base t v := hval0
  have hW' := hW
  obtain ⟨p, q, hA0, hV, rfl, hfz, hnd⟩ := hW
  have hA : DataW.TrodAll enc Try.prog W 0 (fun _ => true) true Try.f6.params.toList args.toList ds p := hA0
  have hsz : (DataW.weightsEach Try.prog (Try.f6.params.toList ++ Rows.wordsTextBackSpec.plain.varTypes Try.prog) (ds ++ gs)).all (· ≤ reachBytes) = true := hsz0
  rw [Try.params6] at hA hval hsz
  obtain ⟨v0, vs0, d0, ds0, p0, q0, hargs, rfl, rfl, h0, r0⟩ := trodAll_cons hA
  obtain ⟨v1, vs1, d1, ds1, p1, q1, rfl, rfl, rfl, h1, r1⟩ := trodAll_cons r0
  obtain ⟨v2, vs2, d2, ds2, p2, q2, rfl, rfl, rfl, h2, r2⟩ := trodAll_cons r1
  obtain ⟨rfl, rfl, rfl⟩ := trodAll_nil r2
  obtain rfl : args = #[v0, v1, v2] := by cases args; simp_all
  obtain ⟨rfl, rfl⟩ := trodVars_none hV
  obtain ⟨a0, rfl, rfl, rfl, w0⟩ := open_string Try.underlying9 (hval 0 9 v0 rfl rfl) h0
  obtain ⟨a1, rfl, rfl, rfl, w1⟩ := open_int Try.underlying3 (hval 1 3 v1 rfl rfl) h1
  obtain ⟨a2, len2, cap2, rfl⟩ := okWide_slice Try.underlying32 (hval 2 32 v2 rfl rfl)
  have k2 := h2
  have lt2 : ∀ x ∈ p2, x.block < W.heap.size := by obtain ⟨m, hm⟩ := k2; exact DataW.trod_lt m _ _ _ hm
  obtain ⟨g, hg, hw2, hreach, hlc⟩ : ∃ g : Nat → Nat, (∀ j, g j < 2 ^ 64) ∧ IsW W (.slice a2 len2 cap2) len2 g ∧ len2 * 8 ≤ 140737488351232 ∧ len2 ≤ cap2 := by
    obtain ⟨fuel, hf⟩ := h2
    rcases open_ints Try.underlying32 Try.underlying22 (by kernel_rfl) hf with ⟨hcs, _⟩ | ⟨x, l, c, zs, hcs, _, hl, hm, hz, hx, hcell, hwz⟩
    · simp [Value.cells] at hcs
      obtain ⟨rfl, rfl, rfl⟩ := hcs
      exact ⟨fun _ => 0, fun _ => Nat.two_pow_pos _, ⟨_, _, rfl, .inl rfl⟩, by omega, Nat.le_refl _⟩
    · simp [Value.cells] at hcs
      obtain ⟨rfl, rfl, rfl⟩ := hcs
      simp only [Prod.mk.injEq] at hx
      have hd : d2 = _ := hx.1
      have hz' : zs.length = cap2 := by simpa using hz
      have hr : len2 * 8 ≤ 140737488351232 := by
        rw [hd] at hsz
        have := sized_slice hsz (j := 2) (t := 32) (e := 22) rfl rfl Try.underlying32
        rw [bytes22] at this
        simp only [lits, List.length_map, List.length_take, List.length_drop, reachBytes] at this
        omega
      refine ⟨fun j => (zs.getD j 0).toNat, fun j => ?_, isW_of hl hz' hcell hwz, hr, hl⟩
      have := range_u64 hwz j
      rw [← List.getD_eq_getElem?_getD] at this
      show (zs.getD j 0).toNat < 2 ^ 64
      omega
  clear hA0 hval0
  refine (walk a0 a1 a2 len2 cap2 g W w0 (bounds_i64 w1) hg hw2 hreach hlc).mono fun e W' ⟨he, bel⟩ => ?_
  subst he
  exact ⟨_, rfl, _, _, _, [], _, [], hW', trodAll_mk1 (shut_bool Try.underlying4 _), (trodAll_cons_mk (shut_string Try.underlying9 w0) (trodAll_cons_mk (shut_int Try.underlying3 w1) (trodAll_cons_mk (Below.trod laidOut (by kernel_rfl) (of_decide_eq_true (by kernel_rfl)) k2 bel lt2) trodAll_mk0))), rfl, bel.frame _, fun h => by cases h⟩

theorem over : Rows.wordsTextBackRow.holds Try.pinned (OpenSpec.ofChange Rows.wordsTextBackSpec) :=
  OpenClaim.holds_of_wide 6 Try.f6 rfl rfl rfl rfl rfl rfl rfl ⟨rfl, rfl, rfl, rfl, rfl⟩ rfl rfl rfl rfl rfl (by kernel_rfl) Try.func6 (by kernel_rfl)
    (of_decide_eq_true (by kernel_rfl)) (by unfold Func.isWrapper; first | (rw [if_pos (by decide +kernel)]; kernel_rfl) | (rw [if_neg (by decide +kernel)]; exact ⟨rfl, rfl⟩))
    (fun os started H enc _ => lifted os started H enc)

/-- ████ THE STATEMENT ████ -/
theorem proved : Rows.WordsTextBackSaid := over
#print axioms proved
end Go.Proofs.Ytbalicoebnplmaa.wordsTextBack
