/- Contracts of the store's small calls: whether there is a view, who owns a block, a block that is given, taken, dropped; how many are free. -/
import Derived.Test.YtdjnkibnnjobpaaVwF
namespace Go.Proofs.Ytdjnkibnnjobpaa
open Go.RowKit Go.Maps Go.ChangeMaps

/-- A view over its memory. -/
structure On (w : World) (V : VLay) (S : Vw) (N : Nat) (L : Lay) (M : Mem) : Prop where
  view : ViewIs w V S N
  mem : MemIs w L M
  mb : V.mb = L.mb
  vl : ∀ b ∈ L.blocks, b ∉ V.all
section
variable {w w1 : World} {V : VLay} {S S1 : Vw} {N N1 : Nat} {L : Lay} {M : Mem}
theorem On.later (h : On w V S N L M) (hb : Below w.heap.size w w1) : On w1 V S N L M := ⟨h.view.later hb, h.mem.later hb, h.mb, h.vl⟩
theorem On.mono (h : On w V S N L M) (hn : N ≤ N1) : On w V S N1 L M := ⟨h.view.mono hn, h.mem, h.mb, h.vl⟩
theorem On.step (h : On w V S N L M) (hv : ViewIs w1 V S1 N1) {X : List Nat} (ho : Only X w w1) (hX : ∀ j ∈ X, j ∈ V.all) : On w1 V S1 N1 L M :=
  ⟨hv, h.mem.kept ho (fun k hk hk2 => h.vl k hk (hX k hk2)), h.mb, h.vl⟩
theorem On.ok (h : On w V S N L M) (k : Int) : 0 ≤ S.word M k ∧ S.word M k ≤ 18446744073709551615 := word_ok h.view h.mem k
end
theorem only_blocks {V : VLay} {X : List Nat} {a b : World} (h : Only X a b) (hX : ∀ j ∈ X, j ∈ V.blocks) : Only V.blocks a b := h.mono hX

theorem miss_no (V : VLay) (S : Vw) (N : Nat) (L : Lay) (M : Mem) (w : World) (h : On w V S N L M) :
    Calls Try.prog 62 #[.pointer (some ⟨V.vb, 0, none⟩)] w fun e w' => e = .returned (.bool false) ∧ Below w.heap.size w w' := by
  have HB : Hid _ := vblock_yes V S N L M 0 w h.view h.mem h.mb (by omega) (by omega)
  clear h
  go_enter Try.func62, Try.ntmps62
  go_wp2_with fail
  refine Calls.mono (Hid.out HB) ?_
  rintro e w1 ⟨rfl, _, hb⟩
  have HB1 : Hid (Below w.heap.size w w1) := hb
  clear hb
  go_wp2
  go_ret
  exact ⟨rfl, HB1.out⟩

/-- With block k a file's, and its words 0. -/
def Vw.give (S : Vw) (k node : Int) : Vw := { S with own := rowOwn (upd S.own (200 + k) (some (node + 1))) (1288 + 16 * k) (fun _ => 0) 16 }
theorem blockRow_nil (f : Nat → Int) : blockRow 0 f = fun _ => 0 := by
  funext i
  unfold blockRow
  simp
theorem owner_open {k : Int} (h0 : 0 ≤ k) (h1 : k < 96) : openB (200 + k) = true := (openB_iff _).2 (by unfold openI; omega)
set_option maxHeartbeats 1000000 in
theorem give_any (V : VLay) (S : Vw) (N : Nat) (L : Lay) (M : Mem) (k node : Int) (w : World) (h : On w V S N L M) (hN : N < 800000000) (h0 : 0 ≤ k) (h1 : k < 96) (n0 : 0 ≤ node) (n1 : node < 24) :
    Calls Try.prog 63 #[.pointer (some ⟨V.vb, 0, none⟩), .int .i64 k, .int .i64 node] w fun e w' => e = .returned (.tuple #[]) ∧ On w' V (S.give k node) (N + 17) L M ∧ Only V.blocks w w' := by
  have HO : Hid (∀ w, Calls Try.prog 55 #[.int .i64 k] w fun e w' => e = .returned (.tuple #[.int .i64 (200 + k), .int .i64 0]) ∧ w' = w) := fun w => owner_at k w h0 h1
  have hw1 : IntKind.u64.wrap node = node := by rw [IntKind.wrap_u64]; omega
  have hw2 : IntKind.u64.wrap (node + 1) = node + 1 := by rw [IntKind.wrap_u64]; omega
  have H : Hid (On w V S N L M) := h
  clear h
  go_enter Try.func63, Try.ntmps63
  go_wp2_with fail
  refine Calls.mono (HO.out _) ?_
  rintro e w' ⟨rfl, hw⟩
  obtain rfl := hw.symm
  go_wp2_with fail
  refine (vwrite_yes V S N (200 + k) (node + 1) w H.out.view (owner_open h0 h1) (by omega) (WalkArith.wf_i64 (by omega)) (WalkArith.wf_u64 (by omega))).mono ?_
  rintro e w1 ⟨rfl, hv1, ho1⟩
  have H1 : Hid (On w1 V { S with own := upd S.own (200 + k) (some (node + 1)) } (N + 1) L M) := H.out.step hv1 ho1 (by simp [VLay.all, VLay.blocks])
  have HO1 : Hid (Only V.blocks w w1) := only_blocks ho1 (by simp [VLay.blocks])
  clear hv1 ho1
  go_wp2_with fail
  refine (vsetBlock_yes V _ (N + 1) k none 0 0 (fun _ => 0) w1 H1.out.view (by omega) h0 h1 (by omega) (.inl rfl) (fun i hi => absurd hi (Nat.not_lt_zero i))).mono ?_
  rintro e w2 ⟨rfl, hv2, ho2⟩
  rw [blockRow_nil] at hv2
  have H2 : Hid (On w2 V (S.give k node) (N + 17) L M) := H1.out.step hv2 ho2 (by simp [VLay.all, VLay.blocks])
  have HO2 : Hid (Only V.blocks w w2) := HO1.out.trans (only_blocks ho2 (by simp [VLay.blocks]))
  clear hv2 ho2
  go_wp2
  go_end0
  exact ⟨rfl, H2.out, HO2.out⟩

theorem ownerAt_yes (V : VLay) (S : Vw) (N : Nat) (L : Lay) (M : Mem) (k : Int) (w : World) (h : On w V S N L M) (h0 : 0 ≤ k) (h1 : k < 96) :
    Calls Try.prog 60 #[.pointer (some ⟨V.vb, 0, none⟩), .int .i64 k] w fun e w' => e = .returned (.tuple #[.int .i64 (200 + k), .int .i64 0]) ∧ Below w.heap.size w w' := by
  have HM : Hid _ := miss_no V S N L M w h
  have HO : Hid (∀ w, Calls Try.prog 55 #[.int .i64 k] w fun e w' => e = .returned (.tuple #[.int .i64 (200 + k), .int .i64 0]) ∧ w' = w) := fun w => owner_at k w h0 h1
  clear h
  go_enter Try.func60, Try.ntmps60
  go_wp2_with fail
  refine Calls.mono (Hid.out HM) ?_
  rintro e w1 ⟨rfl, hb⟩
  have HB1 : Hid (Below w.heap.size w w1) := hb
  clear hb
  go_wp2_with fail
  refine Calls.mono (HO.out _) ?_
  rintro e w' ⟨rfl, hw⟩
  obtain rfl := hw.symm
  go_wp2
  go_ret2
  exact ⟨rfl, HB1.out⟩
theorem ownerAt_no (V : VLay) (S : Vw) (N : Nat) (L : Lay) (M : Mem) (k : Int) (w : World) (h : On w V S N L M) (hk : k < 0 ∨ 96 ≤ k) :
    Calls Try.prog 60 #[.pointer (some ⟨V.vb, 0, none⟩), .int .i64 k] w fun e w' => e = .returned (.tuple #[.int .i64 0, .int .i64 1]) ∧ Below w.heap.size w w' := by
  have HM : Hid _ := miss_no V S N L M w h
  have HO : Hid (∀ w, Calls Try.prog 55 #[.int .i64 k] w fun e w' => e = .returned (.tuple #[.int .i64 0, .int .i64 1]) ∧ w' = w) := fun w => owner_no k w hk
  clear h
  go_enter Try.func60, Try.ntmps60
  go_wp2_with fail
  refine Calls.mono (Hid.out HM) ?_
  rintro e w1 ⟨rfl, hb⟩
  have HB1 : Hid (Below w.heap.size w w1) := hb
  clear hb
  go_wp2_with fail
  refine Calls.mono (HO.out _) ?_
  rintro e w' ⟨rfl, hw⟩
  obtain rfl := hw.symm
  go_wp2
  go_ret2
  exact ⟨rfl, HB1.out⟩

/-- What Owner answers of an owner's word. -/
def ownerOf (x : Int) : Value := if x = 0 then .tuple #[.int .i64 (-1), .int .i64 0] else if 24 < x then .tuple #[.int .i64 0, .int .i64 15] else .tuple #[.int .i64 (x - 1), .int .i64 0]
/-- With block k no file's. -/
def Vw.drop (S : Vw) (k : Int) : Vw := { S with own := upd S.own (200 + k) (some 0) }
set_option maxHeartbeats 1000000 in
theorem drop_yes (V : VLay) (S : Vw) (N : Nat) (L : Lay) (M : Mem) (k : Int) (w : World) (h : On w V S N L M) (hN : N < 800000000) (h0 : 0 ≤ k) (h1 : k < 96) (hx : S.word M (200 + k) ≠ 0) :
    Calls Try.prog 48 #[.pointer (some ⟨V.vb, 0, none⟩), .int .i64 k] w fun e w' => e = .returned (.int .i64 0) ∧ On w' V (S.drop k) (N + 1) L M ∧ Only V.blocks w w' := by
  have HM : Hid _ := ownerAt_yes V S N L M k w h h0 h1
  obtain ⟨x, hxe⟩ : ∃ x, S.word M (200 + k) = x := ⟨_, rfl⟩
  have HR : Hid (∀ w1, Below w.heap.size w w1 → Calls Try.prog 57 #[.pointer (some ⟨V.vb, 0, none⟩), .int .i64 (200 + k)] w1 fun e w' => e = .returned (.int .u64 x) ∧ w' = w1) := fun w1 hb => by
    rw [← hxe]; exact vread_any V S N L M (200 + k) w1 (h.later hb).view (h.later hb).mem h.mb (WalkArith.wf_i64 (by omega))
  rw [hxe] at hx
  have d0 : (x == 0) = false := by simpa using hx
  have H : Hid (On w V S N L M) := h
  clear h hxe hx
  go_enter Try.func48, Try.ntmps48
  go_wp2_with fail
  refine Calls.mono (Hid.out HM) ?_
  rintro e w1 ⟨rfl, hb⟩
  have HB1 : Hid (Below w.heap.size w w1) := hb
  have H1 : Hid (On w1 V S N L M) := H.out.later hb
  clear hb
  go_wp2_with fail
  refine Calls.mono (HR.out _ HB1.out) ?_
  rintro e w' ⟨rfl, hw⟩
  obtain rfl := hw.symm
  go_wp2_with fail
  refine (vwrite_yes V S N (200 + k) 0 _ H1.out.view (owner_open h0 h1) (by omega) (WalkArith.wf_i64 (by omega)) (WalkArith.wf_u64 (by omega))).mono ?_
  rintro e w2 ⟨rfl, hv2, ho2⟩
  have H2 : Hid (On w2 V (S.drop k) (N + 1) L M) := H1.out.step hv2 ho2 (by simp [VLay.all, VLay.blocks])
  have HO2 : Hid (Only V.blocks w w2) := (Only.of_below HB1.out).trans (only_blocks ho2 (by simp [VLay.blocks]))
  clear hv2 ho2
  go_wp2
  go_ret
  exact ⟨rfl, H2.out, HO2.out⟩
theorem drop_free (V : VLay) (S : Vw) (N : Nat) (L : Lay) (M : Mem) (k : Int) (w : World) (h : On w V S N L M) (h0 : 0 ≤ k) (h1 : k < 96) (hx : S.word M (200 + k) = 0) :
    Calls Try.prog 48 #[.pointer (some ⟨V.vb, 0, none⟩), .int .i64 k] w fun e w' => e = .returned (.int .i64 15) ∧ Below w.heap.size w w' := by
  have HM : Hid _ := ownerAt_yes V S N L M k w h h0 h1
  have HR : Hid (∀ w1, Below w.heap.size w w1 → Calls Try.prog 57 #[.pointer (some ⟨V.vb, 0, none⟩), .int .i64 (200 + k)] w1 fun e w' => e = .returned (.int .u64 0) ∧ w' = w1) := fun w1 hb => by
    rw [← hx]; exact vread_any V S N L M (200 + k) w1 (h.later hb).view (h.later hb).mem h.mb (WalkArith.wf_i64 (by omega))
  clear h hx
  go_enter Try.func48, Try.ntmps48
  go_wp2_with fail
  refine Calls.mono (Hid.out HM) ?_
  rintro e w1 ⟨rfl, hb⟩
  have HB1 : Hid (Below w.heap.size w w1) := hb
  clear hb
  go_wp2_with fail
  refine Calls.mono (HR.out _ HB1.out) ?_
  rintro e w' ⟨rfl, hw⟩
  obtain rfl := hw.symm
  go_wp2
  go_ret
  exact ⟨rfl, HB1.out⟩

/-- How many of the first n blocks are fresh. -/
def nFresh (S : Vw) (M : Mem) : Nat → Nat
  | 0 => 0
  | n + 1 => nFresh S M n + (if freshB S M (n : Int) = true then 1 else 0)
theorem nFresh_le (S : Vw) (M : Mem) (n : Nat) : nFresh S M n ≤ n := by
  induction n with
  | zero => exact Nat.le_refl 0
  | succ n ih => unfold nFresh; split <;> omega
set_option maxHeartbeats 1000000 in
theorem free_any (V : VLay) (S : Vw) (N : Nat) (L : Lay) (M : Mem) (w : World) (h : On w V S N L M) :
    Calls Try.prog 20 #[.pointer (some ⟨V.vb, 0, none⟩)] w fun e w' => e = .returned (.int .i64 (nFresh S M 96)) ∧ Below w.heap.size w w' := by
  have H : Hid (On w V S N L M) := h
  clear h
  go_enter Try.func20, Try.ntmps20
  go_wp2
  go_loopw [3, 4, 5] (fun c _ i wr => ∃ k : Nat, k ≤ 96 ∧ i = .int .i64 k ∧ c = .int .i64 (nFresh S M k) ∧ Hid (Below w.heap.size w wr)) (fun _ _ i _ => 96 - (intOf i).toNat)
  case atStart => exact ⟨0, by omega, rfl, rfl, Below.refl _ _⟩
  case round =>
    obtain ⟨k, hk, rfl, rfl, HB⟩ := hrel
    by_cases hlt : k < 96
    · have hb : (k : Int) < 96 := by omega
      have hle := nFresh_le S M k
      obtain ⟨f, hf⟩ : ∃ f, freshB S M (k : Int) = f := ⟨_, rfl⟩
      have HF : Hid (∀ w1, Below w.heap.size w w1 → Calls Try.prog 42 #[.pointer (some ⟨V.vb, 0, none⟩), .int .i64 k] w1 fun e w' => e = .returned (.bool f) ∧ w' = w1) := fun w1 hb => by
        rw [← hf]; exact vfresh_yes V S N L M k w1 (H.out.later hb).view (H.out.later hb).mem H.out.mb (by omega) (by omega)
      have HE : Hid (nFresh S M (k + 1) = nFresh S M k + (if f = true then 1 else 0)) := by
        rw [← hf]; exact (rfl : nFresh S M (k + 1) = _)
      obtain ⟨c, hc⟩ : ∃ c, nFresh S M k = c := ⟨_, rfl⟩
      rw [hc] at HE hle ⊢
      clear hf hc
      go_wp2_with fail
      refine Calls.mono (HF.out _ HB.out) ?_
      rintro e w' ⟨rfl, hw⟩
      obtain rfl := hw.symm
      cases f with
      | true =>
        go_wp2
        go_roundw
        case rel => exact ⟨k + 1, by omega, by go_num, by rw [HE.out]; go_num, HB.out⟩
        case measure => simp [intOf]; omega
      | false =>
        go_wp2
        go_roundw
        case rel => exact ⟨k + 1, by omega, by go_num, by rw [HE.out]; go_num, HB.out⟩
        case measure => simp [intOf]; omega
    · obtain rfl : k = 96 := by omega
      go_wp2
      go_ret
      exact ⟨rfl, HB.out⟩

end Go.Proofs.Ytdjnkibnnjobpaa
