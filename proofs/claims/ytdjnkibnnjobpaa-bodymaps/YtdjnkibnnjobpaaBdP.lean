/- That the laws' head answers true. -/
import Derived.Test.YtdjnkibnnjobpaaBdO
import Derived.Test.YtdjnkibnnjobpaaCnt
import Derived.Test.YtdjnkibnnjobpaaBig
namespace Go.Proofs.Ytdjnkibnnjobpaa
open Go.RowKit Go.Maps Go.ChangeMaps

theorem new_word (j : Int) (h0 : 2 ≤ j) (h1 : j < 2824) : Vw.new.word M0 j = 0 := by
  unfold Vw.word Vw.new
  simpa using M0_zero j h0 h1
theorem new_count : nFresh Vw.new M0 96 = 96 := by
  have := nFresh_list Vw.new M0 96 [] List.nodup_nil (fun x hx => by simp at hx) (fun b hb => by
    rw [freshB_eq (by omega) (by omega), M0_zero _ (by omega) (by omega), new_word _ (by omega) (by omega)]
    simp [Vw.new])
  simpa using this
/-- Which blocks are free behind a call on a new memory. -/
theorem M0_count {S : Vw} {node : Int} {mp : Nat → Int} {mr : Int} (hF : Fil (S.word M0) node mp mr) (hk : Keeps (Vw.new.word M0) (S.word M0) node) (ha : S.away = Vw.new.away) (n0 : 0 ≤ node) : nFresh S M0 96 + (ownL mp mr).length = 96 := by
  refine nFresh_list S M0 96 _ (ownL_nodup hF) (fun x hx => by have := (ownL_mem hF x).1 hx; omega) fun b hb => ?_
  rw [freshB_eq (by omega) (by omega), M0_zero _ (by omega) (by omega), ha]
  have h1 := hk.mine (b : Int) (by omega) (by omega) (.inl (new_word _ (by omega) (by omega)))
  have h2 := ownL_mem hF (b : Int)
  by_cases e : (b : Int) ∈ ownL mp mr
  · have := (h2.1 e).2.2
    have hne : ¬ S.word M0 (200 + (b : Int)) = 0 := by omega
    simp [e, hne]
  · have hz : S.word M0 (200 + (b : Int)) = 0 := by
      rcases h1 with h1 | h1
      · exact h1
      · exact absurd (h2.2 ⟨by omega, by omega, h1⟩) e
    simp [e, hz, Vw.new]
def ab : ByteArray := ⟨#[97, 98]⟩
theorem ab_text {W : Int → Int} {mp : Nat → Int} (h : ∀ i, i < 2688 → fileB W mp i = if 700 ≤ i ∧ i < 702 then Wd.bAt ab (i - 700) else 0) : span W mp 699 702 = ⟨#[0, 97, 98]⟩ := by
  apply Wd.ext_bAt
  · rw [span_size]; rfl
  · intro i hi
    rw [span_size] at hi
    rw [span_at _ _ _ _ _ (by omega), h _ (by omega)]
    match i, hi with
    | 0, _ => rfl
    | 1, _ => rfl
    | 2, _ => rfl

theorem two_own {mp : Nat → Int} {mr b : Int} (h : ∀ i, i < 21 → mp i = if i = 5 then b else -1) (hb : 0 ≤ b) (hm : 0 ≤ mr) : (ownL mp mr).length = 2 := by
  unfold ownL
  have e : (List.range 21).map mp = (List.range 21).map fun i => if i = 5 then b else -1 := List.map_congr_left fun i hi => h i (List.mem_range.1 hi)
  rw [e]
  simp [List.range_succ, hb, hm]

set_option maxHeartbeats 4000000 in
set_option maxRecDepth 100000 in
theorem lives_any (w : World) : Calls Try.prog 5 #[] w fun e w' => e = .returned (.bool true) ∧ Below w.heap.size w w' := by
  go_enter Try.func5, Try.ntmps5
  go_wp2_with fail
  refine (image_nil _).mono ?_
  rintro e w1 ⟨G, rfl, hr, _, hb1⟩
  have HB1 : Hid (Below w.heap.size w w1) := hb1
  go_wp2_with fail
  refine (load_img G headN _ hr (fun i _ => headN_wf i)).mono ?_
  rintro e w2 ⟨L, rfl, hm2, _, hb2⟩
  have HM2 : Hid (MemIs w2 L M0) := hm2
  have HBB : Hid (Below w1.heap.size w1 w2) := hb2
  clear hr hb1 hm2 hb2
  go_wp2_with fail
  refine (vnew_yes L M0 w2 HM2.out M0_len).mono ?_
  rintro e w3 ⟨rfl, hv3, hb3⟩
  have hs := begin_ses HB1.out HM2.out HBB.out hv3 hb3
  obtain ⟨V, hV⟩ : ∃ A, newLay L.mb w2.heap.size = A := ⟨_, rfl⟩
  rw [hV] at hs
  have HS3 : Hid (Ses w w3 V Vw.new 0 L M0) := hs
  have HVV : Hid (V.vb = w2.heap.size) := by rw [← hV]; rfl
  rw [← HVV.out]
  clear hv3 hb3 hV hs HB1 HM2 HBB
  go_wp2_with fail
  refine (refFresh_yes 1 1 w3 (.inl rfl)).mono ?_
  rintro e w4 ⟨rfl, hb4⟩
  have HS4 : Hid (Ses w w4 V Vw.new 0 L M0) := HS3.out.later hb4
  clear hb4
  have HWR : Hid (∀ w1, Below w4.heap.size w4 w1 → Calls Try.prog 18 #[.pointer (some ⟨V.vb, 0, none⟩), .int .i64 2, .agg #[.int .i64 1, .int .i64 1, .int .i64 0, .int .u64 1, .int .i64 (-1), .int .i64 (-1), .int .i64 (-1), .int .i64 (-1), .int .i64 (-1), .int .i64 (-1)], .int .i64 700, .string ab] w1 fun e w' => WriteTo V Vw.new 0 L M0 2 1 1 0 1 (-1) (-1) (-1) (-1) (-1) (-1) 700 ab w1 w' e) := fun w1 hb =>
    bwrite_any V Vw.new 0 L M0 2 1 1 0 1 (-1) (-1) (-1) (-1) (-1) (-1) 700 ab w1 (HS4.out.later hb).on (by omega) (by omega) (by omega) (newfile fun b b0 b1 => by rw [new_word _ (by omega) (by omega)]; omega) (by omega) (by omega) (by decide) (by decide) (by decide)
  have hba : Below w4.heap.size w4 (w4.alloc (.cells #[.int .i64 1, .int .i64 1, .int .i64 0, .int .u64 1, .int .i64 (-1), .int .i64 (-1), .int .i64 (-1), .int .i64 (-1), .int .i64 (-1), .int .i64 (-1)] 26)) := (Below.refl _ _).alloc (Nat.le_refl _) _
  have HSA := HS4.out.later hba
  have HWR2 := HWR.out _ hba
  have HSAH : Hid _ := HSA
  have HWRH : Hid _ := HWR2
  clear hba HSA HWR2 HWR
  go_wp2_with fail
  refine Calls.mono (Hid.out HWRH) ?_
  rintro e w5 ⟨S, N, hon, hN, hO, ha, _, hcase⟩
  rcases hcase with ⟨e0, e1, e2, e3, e4, mr, rfl, hfile, hkeeps, hby, hho⟩ | ⟨_, hbad⟩
  rotate_left
  · rw [new_count] at hbad
    exact absurd hbad (by decide)
  have hsz : max (0 : Int) ((700 + ab.size : Nat) : Int) = 702 := by decide
  rw [hsz]
  have HS5 : Hid (Ses w w5 V S N L M0) := HSAH.out.step hon hO
  have HFI : Hid (FileIs (S.word M0) 2 e0 e1 e2 e3 e4 mr) := hfile
  obtain ⟨mp, hmp⟩ : ∃ mp, mapF (S.word M0) e0 e1 e2 e3 e4 mr = mp := ⟨_, rfl⟩
  have hF1 := hfile.1
  rw [hmp] at hF1 hby hho
  have hho' : ∀ i, i < 21 → (mp i = -1 ↔ ¬ i = 5) := fun i hi => by
    rw [hho i hi, newmap]
    have e : pcN 700 (700 + ab.size) = 1 := by decide
    rw [e]
    constructor
    · rintro ⟨_, x⟩; omega
    · intro x; exact ⟨rfl, by omega⟩
  have h5 : 0 ≤ mp 5 := by
    have h1 := (hF1.rng 5 (by omega)).1
    have h2 : ¬ mp 5 = -1 := fun x => (hho' 5 (by omega)).1 x rfl
    omega
  have hmr : 0 ≤ mr := by
    have h1 := hF1.mrng.1
    by_cases e : mr = -1
    · rw [← hmp] at h5
      unfold mapF at h5
      rw [if_neg (by omega), if_pos e] at h5
      omega
    · omega
  have hc : nFresh S M0 96 = 94 := by
    have h1 := M0_count hF1 hkeeps ha (by omega)
    rw [two_own (b := mp 5) (fun i hi => by
      by_cases e : i = 5
      · rw [if_pos e, e]
      · rw [if_neg e]; exact (hho' i hi).2 e) h5 hmr] at h1
    omega
  have htx : span (S.word M0) mp 699 702 = ⟨#[0, 97, 98]⟩ := ab_text fun i hi => by
    rw [hby i hi, hole_byte (newmap _ _)]
    rfl
  have HRD : Hid (∀ w1, Below w5.heap.size w5 w1 → Calls Try.prog 17 #[.pointer (some ⟨V.vb, 0, none⟩), .agg #[.int .i64 1, .int .i64 1, .int .i64 702, .int .u64 1, .int .i64 e0, .int .i64 e1, .int .i64 e2, .int .i64 e3, .int .i64 e4, .int .i64 mr], .int .i64 699, .int .i64 9] w1 fun e w' => e = .returned (.tuple #[.string ⟨#[0, 97, 98]⟩, .int .i64 0]) ∧ Below w1.heap.size w1 w') := fun w1 hb => by
    have h := bread_any V S N L M0 1 1 702 1 e0 e1 e2 e3 e4 mr 699 9 w1 (HS5.out.later hb).on (by omega) hF1.mrng.2 HFI.out.may HFI.out.1.rng (by omega) (by omega) (by omega) (by omega)
    rw [hmp] at h
    have e : span (S.word M0) mp (min 699 2688) (min (min 699 2688 + 9) (702 : Int).toNat) = ⟨#[0, 97, 98]⟩ := htx
    rw [e] at h
    exact h
  have HFR : Hid (∀ w1, Below w5.heap.size w5 w1 → Calls Try.prog 20 #[.pointer (some ⟨V.vb, 0, none⟩)] w1 fun e w' => e = .returned (.int .i64 94) ∧ Below w1.heap.size w1 w') := fun w1 hb => by
    have h := free_any V S N L M0 w1 (HS5.out.later hb).on
    rw [hc] at h
    exact h
  clear hon hO hfile hkeeps hby hho hmp hF1 hho' h5 hc htx HSAH HWRH HS4 HS3
  have hbx : Below w5.heap.size w5 (w5.alloc (.cells #[.int .i64 1, .int .i64 1, .int .i64 702, .int .u64 1, .int .i64 e0, .int .i64 e1, .int .i64 e2, .int .i64 e3, .int .i64 e4, .int .i64 mr] 26)) := (Below.refl _ _).alloc (Nat.le_refl _) _
  have HBX : Hid _ := hbx
  clear hbx
  go_wp2_with fail
  refine Calls.mono (HRD.out _ HBX.out) ?_
  rintro e w6 ⟨rfl, hb6⟩
  have hbk : w6.heap[w5.heap.size]? = some (.cells #[.int .i64 1, .int .i64 1, .int .i64 702, .int .u64 1, .int .i64 e0, .int .i64 e1, .int .i64 e2, .int .i64 e3, .int .i64 e4, .int .i64 mr] 26 (0, 0)) := by
    rw [hb6.block _ (by simp)]; exact heap_alloc_new _ _
  have k2 : w6.cell? ⟨w5.heap.size, 2, none⟩ = some (.int .i64 702) := by rw [cell_of_row _ _ 2 _ _ _ hbk]; rfl
  have k9 : w6.cell? ⟨w5.heap.size, 9, none⟩ = some (.int .i64 mr) := by rw [cell_of_row _ _ 9 _ _ _ hbk]; rfl
  have HB6 : Hid (Below w5.heap.size w5 w6) := HBX.out.trans (hb6.mono (by simp))
  clear hb6 hbk
  go_wp2_with (first
    | (go_at_call 20; refine Calls.mono (HFR.out _ HB6.out) ?_; rintro e w7 ⟨rfl, hb7⟩; have HS7 : Hid (Ses w w7 V S N L M0) := (HS5.out.later HB6.out).later hb7; clear hb7)
    | go_in)
  go_ret
  exact ⟨rfl, HS7.out.bel⟩

end Go.Proofs.Ytdjnkibnnjobpaa
