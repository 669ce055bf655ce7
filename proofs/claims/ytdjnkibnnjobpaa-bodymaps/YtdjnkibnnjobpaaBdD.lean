/- Contracts of zeros, text and put: a block's bytes. -/
import Derived.Test.YtdjnkibnnjobpaaBdABC
import Derived.Test.YtdjnkibnnjobpaaWd
import Derived.Deep.RegionHeld3
namespace Go.Proofs.Ytdjnkibnnjobpaa
open Go.RowKit Go.Maps Go.ChangeMaps

theorem zeros_any (n : Nat) (w : World) (hn : n ≤ 140737488355328) :
    Calls Try.prog 51 #[.int .i64 n] w fun e w' => e = .returned (.string (Wd.mkB (fun _ => 0) n)) ∧ Below w.heap.size w w' := by
  have HR : Hid (Calls Try.prog 65 #[.string ⟨#[0]⟩, .int .i64 n] w fun e w' => e = .returned (.string (Wd.mkB (fun _ => 0) n)) ∧ Below w.heap.size w w') := by
    have h := repeat_lib ⟨#[0]⟩ n w (by omega) (by show 1 * n ≤ _; omega)
    rw [Wd.zero_text] at h
    exact h
  go_enter Try.func51, Try.ntmps51
  go_wp2_with (first
    | (go_at_call 65; refine Calls.mono (Hid.out HR) ?_; rintro e w1 ⟨rfl, hb⟩; have HB1 : Hid (Below w.heap.size w w1) := hb; clear hb)
    | go_in)
  go_ret
  exact ⟨rfl, HB1.out⟩

/-- The byte j of block b over these words; of a hole, 0. -/
def blkB (W : Int → Int) (b : Int) (j : Nat) : Nat := if b = -1 then 0 else Wd.byteF (fun i => (W (1288 + 16 * b + (i : Int))).toNat) j
theorem blkB_lt (W : Int → Int) (b : Int) (j : Nat) : blkB W b j < 256 := by
  unfold blkB
  split
  · omega
  · exact Wd.byteF_lt _ _
def blkT (W : Int → Int) (b : Int) : ByteArray := Wd.mkB (blkB W b) 128
theorem blkT_size (W : Int → Int) (b : Int) : (blkT W b).size = 128 := Wd.mkB_size _ _
theorem blkT_at (W : Int → Int) (b : Int) (j : Nat) (hj : j < 128) : Wd.bAt (blkT W b) j = blkB W b j := Wd.bAt_mkB _ (blkB_lt W b) _ _ hj

set_option maxHeartbeats 1000000 in
theorem btext_any (V : VLay) (S : Vw) (N : Nat) (L : Lay) (M : Mem) (b : Int) (w : World) (h : On w V S N L M) (b0 : -1 ≤ b) (b1 : b < 96) :
    Calls Try.prog 37 #[.pointer (some ⟨V.vb, 0, none⟩), .int .i64 b] w fun e w' => e = .returned (.tuple #[.string (blkT (S.word M) b), .int .i64 0]) ∧ Below w.heap.size w w' := by
  by_cases hb : b = -1
  · subst hb
    have HT : Hid (blkT (S.word M) (-1) = Wd.mkB (fun _ => 0) 128) := by
      show _ = _
      unfold blkT
      exact Wd.mkB_congr fun i _ => by unfold blkB; rw [if_pos rfl]
    rw [HT.out]
    clear HT h
    go_enter Try.func37, Try.ntmps37
    go_wp2_with fail
    refine (zeros_any 128 _ (by omega)).mono ?_
    rintro e w1 ⟨rfl, hb⟩
    have HB1 : Hid (Below w.heap.size w w1) := hb
    clear hb
    go_wp2
    go_ret2
    exact ⟨rfl, HB1.out⟩
  · have hbe : (b == -1) = false := by simpa using hb
    have HBL : Hid _ := vblock_yes V S N L M b w h.view h.mem h.mb (by omega) b1
    have HOK : Hid (∀ i, 0 ≤ S.word M i ∧ S.word M i ≤ 18446744073709551615) := h.ok
    have HT : Hid (blkT (S.word M) b = Wd.mkB (Wd.byteF (fun i => (S.word M (1288 + 16 * b + (i : Int))).toNat)) 128) := by
      show _ = _
      unfold blkT
      exact Wd.mkB_congr fun i _ => by unfold blkB; rw [if_neg hb]
    rw [HT.out]
    clear HT h hb
    go_enter Try.func37, Try.ntmps37
    go_wp2_with fail
    refine Calls.mono (Hid.out HBL) ?_
    rintro e w1 ⟨rfl, hrow, hb⟩
    have HB1 : Hid (Below w.heap.size w w1) := hb
    have HWA : Hid (WAt w1 w.heap.size 16 (fun i => S.word M (1288 + 16 * b + (i : Int)))) := wat_of_row hrow (by omega)
    have HU : Hid (Calls Try.prog 52 #[.slice (some ⟨w.heap.size, 0, none⟩) 16 16, .int .i64 128] w1 fun e w' => e = .returned (.tuple #[.string (Wd.mkB (Wd.byteF (fun i => (S.word M (1288 + 16 * b + (i : Int))).toNat)) 128), .int .i64 0]) ∧ Below w1.heap.size w1 w') :=
      Wd.untext_yes w.heap.size 0 16 16 (fun i => (S.word M (1288 + 16 * b + (i : Int))).toNat) 128 w1 (by omega) (by omega) HWA.out.1
        (fun j => by have := HOK.out (1288 + 16 * b + (j : Int)); omega)
        (fun j hj => by rw [Nat.zero_add, HWA.out.2 j hj, Int.toNat_of_nonneg (HOK.out _).1])
    clear hrow hb HWA HOK
    go_wp2_with fail
    refine Calls.mono (Hid.out HU) ?_
    rintro e w2 ⟨rfl, hb2⟩
    have HB2 : Hid (Below w.heap.size w w2) := HB1.out.trans (hb2.mono HB1.out.size)
    clear hb2 HU
    go_wp2
    go_ret2
    exact ⟨rfl, HB2.out⟩

/-- With the words of block b. -/
def Vw.setB (S : Vw) (b : Int) (f : Nat → Int) : Vw := { S with own := rowOwn S.own (1288 + 16 * b) f 16 }
theorem setB_in (S : Vw) (M : Mem) (b : Int) (f : Nat → Int) (i : Nat) (hi : i < 16) : (S.setB b f).word M (1288 + 16 * b + (i : Int)) = f i := word_row rfl i hi
theorem setB_out (S : Vw) (M : Mem) (b : Int) (f : Nat → Int) (j : Int) (hj : j < 1288 + 16 * b ∨ 1288 + 16 * b + 16 ≤ j) : (S.setB b f).word M j = S.word M j := word_row_out rfl j (by omega)
/-- A block's words behind put. -/
def putRow (W : Int → Int) (b : Int) (k : Nat) (d : ByteArray) : Nat → Int := blockRow 16 fun i => ((Wd.tw (Wd.bAt (Wd.putS (blkT W b) k d)) 128 i : Nat) : Int)

set_option maxHeartbeats 4000000 in
set_option maxRecDepth 100000 in
theorem bput_any (V : VLay) (S : Vw) (N : Nat) (L : Lay) (M : Mem) (b : Int) (k : Nat) (d : ByteArray) (w : World) (h : On w V S N L M) (hN : N < 800000000) (b0 : 0 ≤ b) (b1 : b < 96) (hk : k + d.size ≤ 128) :
    Calls Try.prog 54 #[.pointer (some ⟨V.vb, 0, none⟩), .int .i64 b, .int .i64 k, .string d] w fun e w' => e = .returned (.int .i64 0) ∧ On w' V (S.setB b (putRow (S.word M) b k d)) (N + 16) L M ∧ Only V.blocks w w' := by
  have HT : Hid _ := btext_any V S N L M b w h (by omega) b1
  have H : Hid (On w V S N L M) := h
  obtain ⟨s, hs⟩ : ∃ s, blkT (S.word M) b = s := ⟨_, rfl⟩
  have hsz : s.size = 128 := by rw [← hs]; exact blkT_size _ _
  have HP : Hid (putRow (S.word M) b k d = blockRow 16 fun i => ((Wd.tw (Wd.bAt (Wd.putS s k d)) 128 i : Nat) : Int)) := by
    show _ = _
    unfold putRow
    rw [hs]
  rw [hs] at HT
  have HS : Hid (Wd.putS s k d = s.extract 0 k ++ d ++ s.extract (k + d.size) 128) := by
    show _ = _
    unfold Wd.putS
    rw [hsz]
  have HZ : Hid ((Wd.putS s k d).size = 128) := by
    have := Wd.putS_size s k d (by omega)
    show _ = _
    omega
  rw [HP.out]
  obtain ⟨F, hF⟩ : ∃ F : Nat → Int, (fun i => ((Wd.tw (Wd.bAt (Wd.putS s k d)) 128 i : Nat) : Int)) = F := ⟨_, rfl⟩
  have HFW : Hid (∀ i, i < 16 → (Lit.int .u64 (F i)).wf = true) := fun i _ => by
    rw [← hF]
    have := Wd.tw_lt (Wd.bAt (Wd.putS s k d)) (Wd.bAt_lt _) 128 i
    exact WalkArith.wf_u64 (by show 0 ≤ ((Wd.tw (Wd.bAt (Wd.putS s k d)) 128 i : Nat) : Int) ∧ ((Wd.tw (Wd.bAt (Wd.putS s k d)) 128 i : Nat) : Int) ≤ 18446744073709551615; omega)
  clear h hs HP
  have hw1 : IntKind.i64.wrap ((k : Int) + (d.size : Int)) = (k : Int) + (d.size : Int) := by rw [IntKind.wrap_i64]; omega
  have hsI : (s.size : Int) = 128 := by omega
  have hk1 : (0 : Int) ≤ (k : Int) := by omega
  have hk2 : (k : Int) ≤ 128 := by omega
  have hk3 : (k : Int) + (d.size : Int) ≤ 128 := by omega
  have hk4 : (0 : Int) ≤ (k : Int) + (d.size : Int) := by omega
  have hadd1 : min k s.size + d.size ≤ 9223372036854775807 := by omega
  have hadd2 : min k s.size + d.size + (min 128 s.size - (k + d.size)) ≤ 9223372036854775807 := by omega
  have HTX : Hid (∀ w1, Calls Try.prog 68 #[.string (s.extract 0 k ++ d ++ s.extract (k + d.size) 128), .int .i64 16] w1 fun e w' => e = .returned (.tuple #[.slice (some ⟨w1.heap.size, 0, none⟩) 16 16, .int .i64 0]) ∧
      WAt w' w1.heap.size 16 F ∧ Below w1.heap.size w1 w') := fun w1 => by
    have h := Wd.text_yes (Wd.putS s k d) 16 w1 (by omega) (by rw [HZ.out]; omega)
    rw [HZ.out] at h
    rw [← hF]
    rw [← HS.out]
    exact h.mono fun e w' ⟨h1, h2, h3⟩ => ⟨h1, wat_of_row h2 (by omega), h3⟩
  rw [hF]
  clear hF HS HZ
  go_enter Try.func54, Try.ntmps54
  go_wp2_with fail
  refine Calls.mono (Hid.out HT) ?_
  rintro e w1 ⟨rfl, hb⟩
  have HB1 : Hid (Below w.heap.size w w1) := hb
  clear hb HT
  go_wp2
  go_region_with (go_at_call 68; refine Calls.mono (HTX.out _) ?_; rintro e w2 ⟨rfl, hwa, hb2⟩)
  all_goals
    have HB2 : Hid (Below w.heap.size w w2) := by first | exact HB1.out.trans (hb2.mono HB1.out.size) | exact HB1.out.drew.trans (hb2.mono HB1.out.size)
    have H2 : Hid (On w2 V S N L M) := H.out.later HB2.out
    have HU : Hid (UAt w2 (some ⟨w1.heap.size, 0, none⟩) 16 F) := .inr ⟨_, 0, rfl, hwa.1, fun i hi => by rw [Nat.zero_add]; exact hwa.2 i hi⟩
    clear hb2 hwa
    go_wp2_with fail
    refine (vsetBlock_yes V S N b _ 16 16 F w2 H2.out.view (by omega) b0 b1 (Nat.le_refl _) HU.out HFW.out).mono ?_
    rintro e w3 ⟨rfl, hv3, ho3⟩
    have H3 : Hid (On w3 V (S.setB b (blockRow 16 F)) (N + 16) L M) := H2.out.step hv3 ho3 (by simp [VLay.all, VLay.blocks])
    have HO3 : Hid (Only V.blocks w w3) := (Only.of_below HB2.out).trans (only_blocks ho3 (by simp [VLay.blocks]))
    clear hv3 ho3
    go_wp2
    go_ret
    exact ⟨rfl, H3.out, HO3.out⟩

end Go.Proofs.Ytdjnkibnnjobpaa
