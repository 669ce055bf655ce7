/- Steps' contract. -/
import Derived.Test.YtfalchacdebdpaaSealE
namespace Go.Proofs.Ytfalchacdebdpaa
open Go.RowKit Go.Maps Go.ChangeMaps Go.Shelf

theorem steps_bad (slot num : Int) (a : Option Addr) (n cap : Nat) (w : World) (h : slot < 0 ∨ 4 ≤ slot ∨ num = 0) :
    Calls Try.prog 9 #[.int .i64 slot, .int .u64 num, .slice a n cap] w fun e w' => e = .returned (.tuple #[.slice none 0 0, .int .i64 0, .int .i64 1]) ∧ w' = w := by
  by_cases hs : slot < 0 ∨ 4 ≤ slot
  · have HL : Hid (Calls Try.prog 29 #[.int .i64 slot] w fun e w' => e = .returned (.tuple #[.int .i64 0, .int .i64 1]) ∧ w' = w) := log_no slot w hs
    clear h hs
    go_enter Try.func9, Try.ntmps9
    go_wp2_with fail
    refine Calls.mono (Hid.out HL) ?_
    rintro e w' ⟨rfl, rfl⟩
    go_wp2
    go_ret3
    exact ⟨rfl, rfl⟩
  · obtain rfl : num = 0 := by omega
    have HL : Hid (Calls Try.prog 29 #[.int .i64 slot] w fun e w' => e = .returned (.tuple #[.int .i64 (296 + 248 * slot), .int .i64 0]) ∧ w' = w) := log_yes slot w (by omega) (by omega)
    clear h hs
    go_enter Try.func9, Try.ntmps9
    go_wp2_with fail
    refine Calls.mono (Hid.out HL) ?_
    rintro e w' ⟨rfl, rfl⟩
    go_wp2
    go_ret3
    exact ⟨rfl, rfl⟩

theorem steps_wrong (slot num : Int) (a : Option Addr) (cap : Nat) (cs : List Chg) (w : World) (h : ChgsAt w a cs) (hok : ChgOk cs) (h0 : 0 ≤ slot) (h4 : slot < 4) (hn : num ≠ 0) (hr : rightP cs ≠ 0) :
    Calls Try.prog 9 #[.int .i64 slot, .int .u64 num, .slice a cs.length cap] w fun e w' => e = .returned (.tuple #[.slice none 0 0, .int .i64 0, .int .i64 (rightP cs)]) ∧ Below w.heap.size w w' := by
  have HL : Hid (Calls Try.prog 29 #[.int .i64 slot] w fun e w' => e = .returned (.tuple #[.int .i64 (296 + 248 * slot), .int .i64 0]) ∧ w' = w) := log_yes slot w h0 h4
  have HR : Hid (Calls Try.prog 11 #[.slice a cs.length cap] w fun e w' => e = .returned (.int .i64 (rightP cs)) ∧ Below w.heap.size w w') := right7_any a cap cs w h hok
  obtain ⟨r, hr'⟩ : ∃ r, rightP cs = r := ⟨_, rfl⟩
  rw [hr'] at hr HR ⊢
  have g1 : (num == 0) = false := by simpa using hn
  have g2 : (r != 0) = true := by simpa using hr
  have g3 : (r == 0) = false := by simpa using hr
  clear h hok hr'
  go_enter Try.func9, Try.ntmps9
  go_wp2_with fail
  refine Calls.mono (Hid.out HL) ?_
  rintro e w' ⟨rfl, rfl⟩
  go_wp2_with fail
  refine Calls.mono (Hid.out HR) ?_
  rintro e w1 ⟨rfl, b1⟩
  go_wp2
  go_ret3
  exact ⟨rfl, b1⟩

theorem right_nil : rightP [] = 0 := by
  unfold rightP
  rw [if_neg (by simp), okI_pos]
  intro i hi; exact absurd hi (Nat.not_lt_zero i)

theorem steps_none (slot num : Int) (a : Option Addr) (cap : Nat) (w : World) (h0 : 0 ≤ slot) (h4 : slot < 4) (hn : num ≠ 0) :
    Calls Try.prog 9 #[.int .i64 slot, .int .u64 num, .slice a 0 cap] w fun e w' => e = .returned (.tuple #[.slice none 0 0, .int .i64 0, .int .i64 0]) ∧ Below w.heap.size w w' := by
  have HL : Hid (Calls Try.prog 29 #[.int .i64 slot] w fun e w' => e = .returned (.tuple #[.int .i64 (296 + 248 * slot), .int .i64 0]) ∧ w' = w) := log_yes slot w h0 h4
  have hrr := right7_any a cap [] w (.inl rfl) (fun i hi => absurd hi (Nat.not_lt_zero i))
  rw [right_nil] at hrr
  have HR : Hid (Calls Try.prog 11 #[.slice a 0 cap] w fun e w' => e = .returned (.int .i64 0) ∧ Below w.heap.size w w') := hrr
  have g1 : (num == 0) = false := by simpa using hn
  clear hrr
  go_enter Try.func9, Try.ntmps9
  go_wp2_with fail
  refine Calls.mono (Hid.out HL) ?_
  rintro e w' ⟨rfl, rfl⟩
  go_wp2_with fail
  refine Calls.mono (Hid.out HR) ?_
  rintro e w1 ⟨rfl, b1⟩
  go_wp2
  go_ret3
  exact ⟨rfl, b1⟩

theorem notesP_in (log : Int) (cs : List Chg) (hlen : cs.length ≤ 120) (h0 : 0 ≤ log) (h1 : log < 1288) (i : Nat) (hi : i < (notesP log cs).length) : 0 ≤ ((notesP log cs).getD i (0, 0)).1 ∧ ((notesP log cs).getD i (0, 0)).1 < 2824 := by
  have hm : (notesP log cs).getD i (0, 0) ∈ notesP log cs := by simp [hi]
  generalize (notesP log cs).getD i (0, 0) = c at hm
  unfold notesP notesTo at hm
  rcases List.mem_cons.1 hm with rfl | hm
  · show 0 ≤ log + 1 ∧ log + 1 < 2824; omega
  · obtain ⟨j, hj, hm⟩ := List.mem_flatMap.1 hm
    have := List.mem_range.1 hj
    simp only [List.mem_cons, List.not_mem_nil, or_false] at hm
    rcases hm with rfl | rfl
    · show 0 ≤ log + 8 + 2 * (j : Int) ∧ log + 8 + 2 * (j : Int) < 2824; omega
    · show 0 ≤ log + 8 + 2 * (j : Int) + 1 ∧ log + 8 + 2 * (j : Int) + 1 < 2824; omega

/-- Concat of two rows that lie somewhere, for a caller. -/
theorem concat_for (S1 S2 : List Stp) (n1 : S1 ≠ []) (n2 : S2 ≠ []) (l1 : S1.length ≤ 1000000) (l2 : S2.length ≤ 1000000) :
    ∀ (w1 : World) (B b1 o1 b2 o2 c1 c2 : Nat), B < w1.heap.size → w1.cell? ⟨B, 0, none⟩ = some (.slice (some ⟨b1, o1, none⟩) S1.length c1) → w1.cell? ⟨B, 1, none⟩ = some (.slice (some ⟨b2, o2, none⟩) S2.length c2) → StpsAt w1 (some ⟨b1, o1, none⟩) S1 → StpsAt w1 (some ⟨b2, o2, none⟩) S2 →
      Calls Try.prog 30 #[.slice (some ⟨B, 0, none⟩) 2 2] w1 fun e w' => ∃ v, e = .returned v ∧ OwnStps w' w1.heap.size v (S1 ++ S2) ∧ Below w1.heap.size w1 w' :=
    fun w1 B b1 o1 b2 o2 c1 c2 hB hc1 hc2 h1 h2 => concat_any B b1 o1 b2 o2 _ _ c1 c2 _ _ w1 hB hc1 hc2 h1 h2 rfl rfl (List.length_pos_iff.2 n1) (List.length_pos_iff.2 n2) l1 l2

theorem ret_three {v : Value} {a b : Int} (h : a = b) : Ending.returned (.tuple #[v, .int .i64 a, .int .i64 0]) = .returned (.tuple #[v, .int .i64 b, .int .i64 0]) := by rw [h]

set_option maxHeartbeats 4000000 in
set_option maxRecDepth 100000 in
theorem steps_good (slot num : Int) (a : Option Addr) (cap : Nat) (cs : List Chg) (w : World) (h : ChgsAt w a cs) (hok : ChgOk cs) (h0 : 0 ≤ slot) (h4 : slot < 4) (hn : num ≠ 0) (hr : rightP cs = 0) (hne : cs ≠ []) :
    Calls Try.prog 9 #[.int .i64 slot, .int .u64 num, .slice a cs.length cap] w fun e w' => ∃ v, e = .returned (.tuple #[v, .int .i64 (sealingP (296 + 248 * slot) num cs).length, .int .i64 0]) ∧ OwnStps w' w.heap.size v (stepsP (296 + 248 * slot) num cs) ∧ Below w.heap.size w w' := by
  have HL : Hid (Calls Try.prog 29 #[.int .i64 slot] w fun e w' => e = .returned (.tuple #[.int .i64 (296 + 248 * slot), .int .i64 0]) ∧ w' = w) := log_yes slot w h0 h4
  have hrr := right7_any a cap cs w h hok
  rw [hr] at hrr
  have HR : Hid (Calls Try.prog 11 #[.slice a cs.length cap] w fun e w' => e = .returned (.int .i64 0) ∧ Below w.heap.size w w') := hrr
  obtain ⟨hlen, hok2⟩ := rightP_ok hr
  have hin : ∀ i, i < cs.length → 0 ≤ (cs.getD i (0, 0)).1 ∧ (cs.getD i (0, 0)).1 < 2824 := fun i hi => by
    have := (hok2 i hi).1; unfold openI at this; omega
  obtain ⟨log, hlg⟩ : ∃ l, 296 + 248 * slot = l := ⟨_, rfl⟩
  have hlog0 : 0 ≤ log := by omega
  have hlog1 : log < 1288 := by omega
  rw [hlg] at HL ⊢
  have hlog' : 0 ≤ log ∧ log < 3000 := by omega
  have hlog2 : 0 ≤ log ∧ log < 2824 := by omega
  have HNT : Hid (∀ w1, ChgsAt w1 a cs → Calls Try.prog 32 #[.int .i64 log, .slice a cs.length cap] w1 fun e w' => ∃ v, e = .returned v ∧ OwnChgs w' w1.heap.size v (notesP log cs) ∧ Below w1.heap.size w1 w') := fun w1 h1 => notes_any log a cap cs w1 h1 hin (by omega) hlog'
  have HMK : Hid (∀ w1, ChgsAt w1 a cs → Calls Try.prog 34 #[.int .i64 log, .slice a cs.length cap] w1 fun e w' => ∃ v, e = .returned v ∧ OwnStps w' w1.heap.size v (makingP log cs) ∧ Below w1.heap.size w1 w') := fun w1 h1 => making_any log a cap cs w1 h1 hin (by omega) hlog2
  have hnl : (notesP log cs).length = 1 + cs.length * 2 := notesTo_len log cs cs.length
  have HS1 : Hid (∀ w1 a1 c1, ChgsAt w1 a1 (notesP log cs) → Calls Try.prog 31 #[.slice a1 (notesP log cs).length c1] w1 fun e w' => ∃ v, e = .returned v ∧ OwnStps w' w1.heap.size v (sureP (notesP log cs)) ∧ Below w1.heap.size w1 w') := fun w1 a1 c1 h1 => sure_any a1 c1 _ w1 h1 (notesP_in log cs hlen hlog0 hlog1) (by omega)
  have hs2 : ∀ (v1 : Value) (a1 : Option Addr) (w1 : World), v1 = .slice a1 1 1 → ChgsAt w1 a1 [(log, num)] → Calls Try.prog 31 #[v1] w1 fun e w' => ∃ v, e = .returned v ∧ OwnStps w' w1.heap.size v (sureP [(log, num)]) ∧ Below w1.heap.size w1 w' := by
    intro v1 a1 w1 e1 h1
    rw [e1]
    exact sure_any a1 1 [(log, num)] w1 h1 (fun i hi => by
      obtain rfl : i = 0 := by simp only [List.length_cons, List.length_nil] at hi; omega
      exact hlog2) (by simp)
  have HS2 : Hid (∀ (v1 : Value) (a1 : Option Addr) (w1 : World), v1 = .slice a1 1 1 → ChgsAt w1 a1 [(log, num)] → Calls Try.prog 31 #[v1] w1 fun e w' => ∃ v, e = .returned v ∧ OwnStps w' w1.heap.size v (sureP [(log, num)]) ∧ Below w1.heap.size w1 w') := hs2
  have HSL : Hid (sealingP log num cs = sureP (notesP log cs) ++ sureP [(log, num)]) := rfl
  have HST : Hid (stepsP log num cs = sealingP log num cs ++ makingP log cs) := rfl
  have l1 := sureP_len (notesP log cs)
  have l2 := sureP_len [(log, num)]
  have l3 := sureP_len cs
  have l4 := sureP_len [(log, 0)]
  have l5 : (makingP log cs).length = (sureP cs).length + (sureP [(log, 0)]).length := by unfold makingP; rw [List.length_append]
  simp only [List.length_cons, List.length_nil] at l2 l4
  obtain ⟨S1, hS1⟩ : ∃ S, sureP (notesP log cs) = S := ⟨_, rfl⟩
  obtain ⟨S2, hS2⟩ : ∃ S, sureP [(log, num)] = S := ⟨_, rfl⟩
  obtain ⟨S3, hS3⟩ : ∃ S, makingP log cs = S := ⟨_, rfl⟩
  rw [hS1] at HS1 HSL l1
  rw [hS2] at HS2 HSL l2
  rw [hS3] at HMK HST l5
  rw [HST.out, HSL.out]
  have n1 : S1 ≠ [] := fun e => by rw [e] at l1; simp at l1
  have n2 : S2 ≠ [] := fun e => by rw [e] at l2; simp at l2
  have n3 : S3 ≠ [] := fun e => by rw [e] at l5; simp at l5; omega
  have n12 : S1 ++ S2 ≠ [] := by simp [n1]
  have HC1 : Hid _ := concat_for S1 S2 n1 n2 (by omega) (by omega)
  have HC2 : Hid _ := concat_for (S1 ++ S2) S3 n12 n3 (by rw [List.length_append]; omega) (by omega)
  obtain ⟨S12, hS12⟩ : ∃ S, S1 ++ S2 = S := ⟨_, rfl⟩
  rw [hS12] at HC1 HC2 n12 ⊢
  clear hS12
  have H : Hid (ChgsAt w a cs) := h
  have g1 : (num == 0) = false := by simpa using hn
  have hpos : 0 < cs.length := List.length_pos_iff.2 hne
  obtain ⟨n, hn'⟩ : ∃ n, cs.length = n := ⟨_, rfl⟩
  rw [hn'] at HR HNT HMK hpos ⊢
  have g2 : ((n : Int) == 0) = false := by simp; omega
  clear hS1 hS2 hS3 h hin hs2 l1 l2 l3 l4 l5 HST HSL hrr hok hok2 hne hn' hr hlen hnl
  go_enter Try.func9, Try.ntmps9
  go_wp2_with fail
  refine Calls.mono (Hid.out HL) ?_
  rintro e w' ⟨rfl, hw⟩
  obtain rfl := hw.symm
  go_wp2_with fail
  refine Calls.mono (Hid.out HR) ?_
  rintro e w0 ⟨rfl, b0⟩
  go_wp2_with fail
  refine Calls.mono (Hid.out HNT _ (H.out.later (Nat.le_refl _) b0)) ?_
  rintro e w1 ⟨v1, rfl, own1, b1⟩
  obtain ⟨a1, c1, rfl, -, at1, -⟩ := own1.at
  have b01 := b0.trans (b1.mono b0.size)
  clear own1 b0 b1
  go_wp2_with fail
  refine Calls.mono (Hid.out HS1 _ _ _ at1) ?_
  rintro e w2 ⟨v2, rfl, own2, b2⟩
  obtain ⟨a2, c2, rfl, -, at2, -⟩ := own2.at
  obtain ⟨g2, o2, rfl, -, -⟩ := id (at2.resolve_left n1)
  have b02 := b01.trans (b2.mono b01.size)
  clear own2 b2 b01 at1
  go_wp2_with fail
  refine (status_any log num _ hlog').mono ?_
  rintro e w3 ⟨rfl, b3⟩
  have at2' := at2.later (Nat.le_refl _) b3
  have b03 := b02.trans (b3.mono b02.size)
  clear at2 b02 b3
  go_wp2_with fail
  refine Calls.mono (Hid.out HS2 _ _ _ rfl (one_at w3 log num)) ?_
  rintro e w4 ⟨v4, rfl, own4, b4⟩
  obtain ⟨a4, c4, rfl, -, at4, -⟩ := own4.at
  obtain ⟨g4, o4, rfl, -, -⟩ := id (at4.resolve_left n2)
  have ba : Below w3.heap.size w3 w4 := ((Below.refl _ _).alloc (Nat.le_refl _) _).trans (b4.mono (by simp))
  have at2 := at2'.later (Nat.le_refl _) ba
  have b04 := b03.trans (ba.mono b03.size)
  clear at2' own4 b4 ba b03
  go_wp2_with fail
  have bl : Below w4.heap.size w4 (w4.alloc (.cells #[.slice (some ⟨g2, o2, none⟩) S1.length c2, .slice (some ⟨g4, o4, none⟩) S2.length c4] 25)) := (Below.refl _ _).alloc (Nat.le_refl _) _
  refine Calls.mono (Hid.out HC1 _ w4.heap.size g2 o2 g4 o4 c2 c4 (by simp) (by simp) (by simp) (at2.later (Nat.le_refl _) bl) (at4.later (Nat.le_refl _) bl)) ?_
  rintro e w5 ⟨v5, rfl, own5, b5⟩
  obtain ⟨a5, c5, rfl, -, at5, -⟩ := own5.at
  obtain ⟨g5, o5, rfl, -, -⟩ := id (at5.resolve_left n12)
  have hsz := b04.size
  have b05 := (b04.trans (bl.mono hsz)).trans (b5.mono (by simp; omega))
  clear at2 at4 own5 b5 bl b04 hsz
  go_wp2_with fail
  refine Calls.mono (Hid.out HMK _ (H.out.later (Nat.le_refl _) b05)) ?_
  rintro e w6 ⟨v6, rfl, own6, b6⟩
  obtain ⟨a6, c6, rfl, -, at6, -⟩ := own6.at
  obtain ⟨g6, o6, rfl, -, -⟩ := id (at6.resolve_left n3)
  have at5' := at5.later (Nat.le_refl _) b6
  have b06 := b05.trans (b6.mono b05.size)
  clear at5 own6 b6 b05
  go_wp2_with fail
  have bl : Below w6.heap.size w6 (w6.alloc (.cells #[.slice (some ⟨g5, o5, none⟩) S12.length c5, .slice (some ⟨g6, o6, none⟩) S3.length c6] 25)) := (Below.refl _ _).alloc (Nat.le_refl _) _
  refine Calls.mono (Hid.out HC2 _ w6.heap.size g5 o5 g6 o6 c5 c6 (by simp) (by simp) (by simp) (at5'.later (Nat.le_refl _) bl) (at6.later (Nat.le_refl _) bl)) ?_
  rintro e w7 ⟨v7, rfl, own7, b7⟩
  have hsz := b06.size
  have b07 := (b06.trans (bl.mono hsz)).trans (b7.mono (by simp; omega))
  have own7' := ownsRow_base_a own7 (base' := w.heap.size) (by simp; omega)
  clear at5' at6 own7 b7 bl b06 hsz
  go_wp2
  go_ret3
  exact ⟨v7, rfl, own7', b07⟩

end Go.Proofs.Ytfalchacdebdpaa
