/- Contracts of the document's own answers for texts (Text, Untext, Hash, Same by definition): the same words, texts and hashes as the package's. -/
import Derived.Test.YtbalicoebnplmaaRef
import Derived.Test.YtbalicoebnplmaaUntext
import Derived.Deep.QuietTactic
import Derived.BigQuiet
namespace Go.Proofs.Ytbalicoebnplmaa
open Go.RowKit

theorem put_tw (b : Nat → Nat) (hb : ∀ k, b k < 256) (k : Nat) : putN (tw b k (k / 8)) (8 * (k % 8)) 8 (b k) = tw b (k + 1) (k / 8) := by
  refine Nat.eq_of_testBit_eq fun i => ?_
  rw [putN_bit _ _ _ _ _ (tw_lt b hb k _) (by omega) (hb k), tw_bit b hb, tw_bit b hb]
  by_cases hc : 8 * (k % 8) ≤ i ∧ i < 8 * (k % 8) + 8
  · have e1 : 8 * (k / 8) + i / 8 = k := by omega
    have e2 : i - 8 * (k % 8) = i % 8 := by omega
    have e3 : i < 64 := by omega
    rw [if_pos hc, e1, e2]; simp [e3]
  · rw [if_neg hc]
    by_cases h6 : i < 64
    · have e : (8 * (k / 8) + i / 8 < k + 1) ↔ (8 * (k / 8) + i / 8 < k) := by omega
      simp [e]
    · simp [h6]

theorem put_step (s : ByteArray) (k q : Nat) (hk : k < s.size) (hq : q = k / 8) :
    putI ((tw (bAt s) k q : Nat) : Int) (8 * ((k : Int) % 8)) 8 ((s[k].toNat : Nat) : Int) = ((tw (bAt s) (k + 1) q : Nat) : Int) := by
  subst hq
  have h := put_tw (bAt s) (bAt_lt s) k
  have e1 : (8 * ((k : Int) % 8)).toNat = 8 * (k % 8) := by omega
  have e2 : (8 : Int).toNat = 8 := rfl
  unfold putI
  rw [Int.toNat_natCast, Int.toNat_natCast, e1, e2, ← bAt_eq s k hk, h]

theorem owns_drewN {w : World} {B : Nat} {e : TypeId} {size : Nat} {v : Value} {n : Nat} {xs : List Value} (h : w.ownsRow B e size v n xs) (q : Nat) : (w.drewN q).ownsRow B e size v n xs := h
theorem below_drewN {B : Nat} {a w : World} (h : Below B a w) (n : Nat) : Below B a (w.drewN n) := h.trans ⟨rfl, rfl, rfl, Nat.le_refl _, fun _ _ => rfl⟩

set_option maxHeartbeats 1000000 in
theorem refText_yes (s : ByteArray) (n : Nat) (w : World) (hn : n ≤ 64) (hs : s.size ≤ 8 * n) :
    Calls Try.prog 15 #[.string s, .int .i64 n] w fun e w' => e = .returned (.tuple #[.slice (some ⟨w.heap.size, 0, none⟩) n n, .int .i64 0]) ∧
      w'.ownsRow w.heap.size 22 1 (.slice (some ⟨w.heap.size, 0, none⟩) n n) n (rowOf (tw (bAt s) s.size) n) ∧ Below w.heap.size w w' := by
  obtain ⟨i0, hi, hz0, hz1, hz2⟩ := info_parts Try.info22
  go_enter Try.func15, Try.ntmps15
  go_wp2_with (at_make; refine wpList_make_full _ rfl _ _ 32 rfl w.heap.size 22 i0 (.int .u64 0) 1 Try.underlying32 hi hz0 hz1 _ _ _ _ n rfl rfl rfl rfl ?b2 ?b3 (Nat.le_refl _) ?_)
  case b2 => rw [hz2]; omega
  case b3 => unfold maxLen; omega
  intro w0 hown0 hgrow0
  go_wp2
  go_loopw [7] (fun i wr => ∃ k : Nat, k ≤ s.size ∧ i = .int .i64 k ∧ wr.ownsRow w.heap.size 22 1 (.slice (some ⟨w.heap.size, 0, none⟩) n n) n (rowOf (tw (bAt s) k) n) ∧ Below w.heap.size w wr) (fun i _ => s.size - (intOf i).toNat)
  case atStart => exact ⟨0, Nat.zero_le _, rfl, by rw [← made_row]; exact hown0, (Below.refl _ _).grown hgrow0 (Nat.le_refl _) (fun k h => by cases h)⟩
  case round =>
    obtain ⟨k, hk, rfl, hown, hnx⟩ := hrel
    by_cases hlt : k < s.size
    · obtain ⟨q, hq⟩ : ∃ q, q = k / 8 := ⟨_, rfl⟩
      have hk8 : q < n := by omega
      have hcell : wr.cell? ⟨w.heap.size, q, none⟩ = some (.int .u64 (tw (bAt s) k q : Nat)) := by rw [hown.cellAt _ (by omega), rowOf_at _ _ _ hk8]
      have hfz : wr.frozen? ⟨w.heap.size, q, none⟩ = false := hown.frozenAt _
      have hb2 : (k : Int) < (s.size : Int) := by omega
      have hb1 : (q : Int) < (n : Int) := by omega
      have hwq : IntKind.i64.wrap ((k : Int) / 8) = (q : Int) := by simp only [IntKind.wrap_i64]; omega
      have ht := tw_lt (bAt s) (bAt_lt s) k q
      have h8 : s[k].toNat < 256 := UInt8.toNat_lt _
      have HS : Hid _ := put_step s k q hlt hq
      have HR : Hid _ := text_rows (bAt s) k n q hq
      clear hq
      go_wp2
      go_quiet ((go_at_call 13; exact Calls.quiet_of_same (refPut_yes _ _ _ _ _ (by omega) (by omega) (by omega) (by omega) (by omega) (by omega) (by show _ ≤ (255 : Int); omega))))
      go_wp2
      go_roundw
      case rel => exact ⟨k + 1, by omega, by go_num, by rw [HS.out, ← HR.out]; exact owns_drewN (hown.stored q _).1 _, by exact below_drewN (hnx.setCell (p := ⟨w.heap.size, q, none⟩) (Nat.le_refl _) _) _⟩
      case measure => simp [intOf]; omega
    · have e : k = s.size := by omega
      subst e
      go_wp2
      go_ret2
      exact ⟨rfl, hown, hnx⟩

theorem refText_arg (s : ByteArray) (n : Int) (w : World) (h : n < 0 ∨ 64 < n) :
    Calls Try.prog 15 #[.string s, .int .i64 n] w fun e w' => e = .returned (.tuple #[.slice none 0 0, .int .i64 1]) ∧ w' = w := by
  rcases h with h | h
  · go_enter Try.func15, Try.ntmps15
    go_wp2
    go_ret2
    exact ⟨rfl, rfl⟩
  · have h' : ¬ n < 0 := by omega
    go_enter Try.func15, Try.ntmps15
    go_wp2
    go_ret2
    exact ⟨rfl, rfl⟩

theorem refText_range (s : ByteArray) (n : Nat) (w : World) (hn : n ≤ 64) (hs : 8 * n < s.size) :
    Calls Try.prog 15 #[.string s, .int .i64 n] w fun e w' => e = .returned (.tuple #[.slice none 0 0, .int .i64 2]) ∧ w' = w := by
  go_enter Try.func15, Try.ntmps15
  go_wp2
  go_ret2
  exact ⟨rfl, rfl⟩


set_option maxHeartbeats 400000 in
theorem refHash_any (s : ByteArray) (w : World) (hs : s.size ≤ maxLen) :
    Calls Try.prog 20 #[.string s] w fun e w' => e = .returned (.int .u64 (hashN (bAt s) s.size : Nat)) ∧ w' = w := by
  unfold maxLen at hs
  go_enter Try.func20, Try.ntmps20
  go_wp2
  go_loop [3, 4] (fun h i => ∃ k : Nat, k ≤ s.size ∧ i = .int .i64 k ∧ h = .int .u64 (hashN (bAt s) k : Nat)) (fun _ i => s.size - (intOf i).toNat)
  case atStart => exact ⟨0, Nat.zero_le _, rfl, rfl⟩
  case round =>
    obtain ⟨k, hk, rfl, rfl⟩ := hrel
    by_cases hlt : k < s.size
    · have hb := hashN_lt (bAt s) k
      have h8 : s[k].toNat < 256 := UInt8.toNat_lt _
      go_wp2
      go_round
      case rel => exact ⟨k + 1, by omega, by go_num, by rw [← hash_step s k hlt]⟩
      case measure => simp [intOf]; omega
    · have e : k = s.size := by omega
      subst e
      go_wp2
      go_ret
      exact ⟨rfl, rfl⟩

set_option maxHeartbeats 400000 in
theorem same_yes (b1 o1 c1 b2 o2 c2 n : Nat) (g : Nat → Nat) (w : World) (hn : n * 8 ≤ 140737488351232)
    (h1 : ∀ j, j < n → w.cell? ⟨b1, o1 + j, none⟩ = some (.int .u64 (g j : Nat))) (h2 : ∀ j, j < n → w.cell? ⟨b2, o2 + j, none⟩ = some (.int .u64 (g j : Nat))) :
    Calls Try.prog 18 #[.slice (some ⟨b1, o1, none⟩) n c1, .slice (some ⟨b2, o2, none⟩) n c2] w fun e w' => e = .returned (.bool true) ∧ ∃ m, w' = w.drewN m := by
  go_enter Try.func18, Try.ntmps18
  go_wp2
  go_loopw [5] (fun i wr => ∃ k m : Nat, k ≤ n ∧ i = .int .i64 k ∧ wr = w.drewN m) (fun i _ => n - (intOf i).toNat)
  case atStart => exact ⟨0, 0, Nat.zero_le _, rfl, rfl⟩
  case round =>
    obtain ⟨k, m, hk, rfl, rfl⟩ := hrel
    by_cases hlt : k < n
    · have x1 := h1 k hlt
      have x2 := h2 k hlt
      have hb : (k : Int) < (n : Int) := by omega
      clear h1 h2
      go_wp2
      go_quiet (fail)
      go_wp2
      go_roundw
      case rel => exact ⟨k + 1, _, by omega, by go_num, rfl⟩
      case measure => simp [intOf]; omega
    · go_wp2
      go_ret
      exact ⟨rfl, m, rfl⟩

theorem same_zero (a1 a2 : Option Addr) (c1 c2 : Nat) (w : World) :
    Calls Try.prog 18 #[.slice a1 0 c1, .slice a2 0 c2] w fun e w' => e = .returned (.bool true) ∧ ∃ m, w' = w.drewN m := by
  go_enter Try.func18, Try.ntmps18
  go_wp2
  go_loop [5] (fun i => i = .int .i64 0) (fun _ => 0)
  case atStart => rfl
  case round =>
    subst hrel
    go_wp2
    go_ret
    exact ⟨rfl, 0, rfl⟩
theorem rowB_snoc (f : Nat → Nat) (k : Nat) : rowB f k ++ [.int .u8 (f k : Nat)] = rowB f (k + 1) := by
  unfold rowB; rw [List.range_succ, List.map_append]; rfl

theorem get_byte (g : Nat → Nat) (k q : Nat) (hq : q = k / 8) : getI ((g q : Nat) : Int) (8 * ((k : Int) % 8)) 8 = ((byteF g k : Nat) : Int) := by
  subst hq
  have e1 : (8 * ((k : Int) % 8)).toNat = k % 8 * 8 := by omega
  have e2 : (8 : Int).toNat = 8 := rfl
  unfold getI byteF
  rw [Int.toNat_natCast, e1, e2]

theorem rowB_part (f : Nat → Nat) (n : Nat) : rowB (part f n) n = rowB f n := by
  apply List.ext_getElem?
  intro j
  by_cases hj : j < n
  · have e : part f n j = f j := by unfold part; rw [if_pos hj]
    rw [rowB_at _ n j hj, rowB_at _ n j hj, e]
  · rw [List.getElem?_eq_none (by rw [rowB_len]; omega), List.getElem?_eq_none (by rw [rowB_len]; omega)]

theorem nil_text (w : World) : (convert 47 9 (.slice none 0 0)).run Try.prog w = .ok (.string ⟨#[]⟩) w := by
  rw [run_convert_bytes_string w 47 9 5 none 0 0 Try.underlying47 Try.underlying5 Try.underlying9]
  simp [Conv.bytesToString]
  rfl

/-- The bytes of an own row, nil or not, as a text. -/
theorem own_text {w : World} {base n : Nat} {v : Value} {f : Nat → Nat} (hf : ∀ i, f i < 256) (hown : w.ownsRow base 5 1 v n (rowB f n)) :
    (convert 47 9 v).run Try.prog w = .ok (.string (mkB f n)) w := by
  rcases hown.2 with ⟨rfl, rfl⟩ | ⟨B, cap, cur, rfl, _⟩
  · exact nil_text w
  · refine row_text (base := base) hf ?_
    rw [rowB_part]; exact hown

set_option maxHeartbeats 1000000 in
theorem refUntext_yes (b off len cap : Nat) (g : Nat → Nat) (n : Nat) (w : World) (hn : n ≤ 8 * len) (hlen : len * 8 ≤ 140737488351232) (hb : b < w.heap.size) (hg : ∀ j, g j < 2 ^ 64)
    (hc : ∀ j, j < len → w.cell? ⟨b, off + j, none⟩ = some (.int .u64 (g j : Nat))) :
    Calls Try.prog 17 #[.slice (some ⟨b, off, none⟩) len cap, .int .i64 n] w fun e w' => e = .returned (.tuple #[.string (mkB (byteF g) n), .int .i64 0]) ∧ Below w.heap.size w w' := by
  obtain ⟨i0, hi, hz0, hz1, hz2⟩ := info_parts Try.info5
  go_enter Try.func17, Try.ntmps17
  go_wp2
  go_loopw [6, 7] (fun v i wr => ∃ k : Nat, k ≤ n ∧ i = .int .i64 k ∧ wr.ownsRow w.heap.size 5 1 v k (rowB (byteF g) k) ∧ Below w.heap.size w wr) (fun _ i _ => n - (intOf i).toNat)
  case atStart => exact ⟨0, Nat.zero_le _, rfl, World.ownsRow_nil _ _ _ _, Below.refl _ _⟩
  case round =>
    obtain ⟨k, hk, rfl, hown, hnx⟩ := hrel
    by_cases hlt : k < n
    · obtain ⟨q, hq⟩ : ∃ q, q = k / 8 := ⟨_, rfl⟩
      have hk8 : q < len := by omega
      have hcell : wr.cell? ⟨b, off + q, none⟩ = some (.int .u64 (g q : Nat)) := (hnx.cell (by exact hb)).trans (hc q hk8)
      have hb1 : (q : Int) < (len : Int) := by omega
      have hgq : ((g q : Nat) : Int) ≤ 18446744073709551615 := by have := hg q; omega
      have hwq : (k : Int) / 8 = (q : Int) := by omega
      have hby := byteF_lt (byteF g) k
      have hbz := byteF_lt g k
      have hge := get_byte g k q hq
      clear hq
      go_wp2_with (first
        | (at_builtin; refine wpList_append_own _ rfl _ _ 47 rfl w.heap.size 5 i0 (.int .u8 0) 1 1 Try.underlying47 hi hz0 hz1 hz2 rfl (by decide) _ _ _ rfl (hown.alloc _) ⟨_, 0, none⟩ 1 1 [.int .u8 (byteF g k : Nat)] rfl rfl ?c1 ?c2 ?c3 ?c4 ?c5 ?_)
        | (go_at_call 11; refine (refGet_yes ((g q : Nat) : Int) (8 * ((k : Int) % 8)) 8 _ (by omega) (by omega) (by omega) (by omega) (by omega)).mono ?_; rintro e w' ⟨rfl, rfl⟩))
      case c1 =>
        intro j u hj
        match j, hj with
        | 0, hj => simp at hj; subst hj; simp [Addr.add]
      case c2 => intro u hu; simp at hu; subst hu; rfl
      case c3 => unfold maxLen; omega
      case c4 => omega
      case c5 => have := hnx.size; simp; omega
      intro v' w1 hown' hgrow _
      rw [rowB_snoc] at hown'
      have hnx1 : Below w.heap.size w w1 := (hnx.alloc hnx.size _).grown hgrow (by have := hnx.size; simp; omega) (fun j h => (hown.lt j h).1)
      clear hgrow hown hcell
      go_wp2
      go_roundw
      case rel => exact ⟨k + 1, by omega, by go_num, hown', hnx1⟩
      case measure => simp [intOf]; omega
    · have e : k = n := by omega
      subst e
      have ht := own_text (byteF_lt g) hown
      go_wp2
      go_ret2
      exact ⟨rfl, hnx⟩

theorem refUntext_zero (ao : Option Addr) (cap : Nat) (g : Nat → Nat) (w : World) :
    Calls Try.prog 17 #[.slice ao 0 cap, .int .i64 0] w fun e w' => e = .returned (.tuple #[.string (mkB (byteF g) 0), .int .i64 0]) ∧ Below w.heap.size w w' := by
  have ht := nil_text w
  go_enter Try.func17, Try.ntmps17
  go_wp2
  go_loop [6, 7] (fun v i => v = .slice none 0 0 ∧ i = .int .i64 0) (fun _ _ => 0)
  case atStart => exact ⟨rfl, rfl⟩
  case round =>
    obtain ⟨rfl, rfl⟩ := hrel
    go_wp2
    go_ret2
    exact ⟨rfl, Below.refl _ _⟩

theorem refUntext_arg (ao : Option Addr) (len cap : Nat) (n : Int) (w : World) (hlen : len * 8 ≤ 140737488351232) (h : n < 0 ∨ 8 * (len : Int) < n) :
    Calls Try.prog 17 #[.slice ao len cap, .int .i64 n] w fun e w' => e = .returned (.tuple #[.string ⟨#[]⟩, .int .i64 1]) ∧ w' = w := by
  rcases h with h | h
  · go_enter Try.func17, Try.ntmps17
    go_wp2
    go_ret2
    exact ⟨rfl, rfl⟩
  · have h' : ¬ n < 0 := by omega
    go_enter Try.func17, Try.ntmps17
    go_wp2
    go_ret2
    exact ⟨rfl, rfl⟩

end Go.Proofs.Ytbalicoebnplmaa
