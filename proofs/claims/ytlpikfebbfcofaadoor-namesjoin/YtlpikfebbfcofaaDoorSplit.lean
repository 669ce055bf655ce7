/- Contract of names.Split, for every text: the names of a path, or that it may not be. -/
import Derived.Test.YtlpikfebbfcofaaDoorJoins
namespace Go.Proofs.YtlpikfebbfcofaaDoor
open Go.RowKit

theorem pcs_len (l : List UInt8) : (pcs l).length ≤ l.length + 1 := by
  induction l with
  | nil => simp [pcs]
  | cons b r ih =>
    by_cases h : b = 47
    · subst h; simp only [pcs, if_pos, List.length_cons]; omega
    · obtain ⟨x, t, h1, h2⟩ := pcs_cons_ne b r h
      rw [h1] at ih
      rw [h2]; simp only [List.length_cons] at ih ⊢; omega
theorem pcs_mem (l : List UInt8) : ∀ x ∈ pcs l, x.length ≤ l.length := by
  induction l with
  | nil => intro x hx; simp [pcs] at hx; subst hx; simp
  | cons b r ih =>
    intro x hx
    by_cases h : b = 47
    · subst h
      simp only [pcs, if_pos, List.mem_cons] at hx
      rcases hx with rfl | hx
      · simp
      · have := ih x hx; simp only [List.length_cons]; omega
    · obtain ⟨y, t, h1, h2⟩ := pcs_cons_ne b r h
      rw [h2, List.mem_cons] at hx
      rw [h1] at ih
      rcases hx with rfl | hx
      · have := ih y (List.mem_cons_self); simp only [List.length_cons]; omega
      · have := ih x (List.mem_cons_of_mem _ hx); simp only [List.length_cons]; omega

/-- what a Split answers -/
def Ans (o : Option (List (List UInt8))) (w : World) (e : Ending) (w' : World) : Prop :=
  match o with
  | none => e = .returned (.tuple #[.slice none 0 0, .int .i64 3]) ∧ Below w.heap.size w w'
  | some xs => ∃ a c, e = .returned (.tuple #[.slice a (mks xs).length c, .int .i64 0]) ∧ (mks xs).length ≤ c ∧ TAt w' a (mks xs) ∧ Below w.heap.size w w'

theorem Sp_long (p : ByteArray) (h : 120 < p.size) : Sp (ls p) = none := by
  unfold Sp; rw [ls_size, if_neg (by omega)]
theorem hasPrefix_head (l : List UInt8) : Lib.hasPrefix l [47] = true ↔ l.head? = some 47 := by
  cases l with
  | nil => simp [Lib.hasPrefix]
  | cons b r =>
    rw [List.head?_cons, Option.some.injEq]
    unfold Lib.hasPrefix
    rw [List.isPrefixOf_iff_prefix, List.cons_prefix_cons]
    exact ⟨fun h => h.1.symm, fun h => ⟨h.symm, List.nil_prefix⟩⟩
theorem Sp_head (p : ByteArray) (h : Lib.hasPrefix (ls p) [47] = false) : Sp (ls p) = none := by
  unfold Sp; rw [if_neg (by intro e; rw [← hasPrefix_head, h] at e; cases e.2)]
theorem Sp_root (p : ByteArray) (h : ls p = [47]) : Sp (ls p) = some [] := by rw [h]; decide
theorem Sp_rest (p : ByteArray) (h : p.size ≤ 120) (h1 : Lib.hasPrefix (ls p) [47] = true) (h2 : ¬ ls p = [47]) :
    Sp (ls p) = if (pcs ((ls p).drop 1)).all rt = true then some (pcs ((ls p).drop 1)) else none := by
  unfold Sp; rw [if_pos ⟨by rw [ls_size]; exact h, (hasPrefix_head _).1 h1⟩, if_neg h2]

theorem slash_any (p : ByteArray) (b : Bool) (w : World) (h : Lib.hasPrefix (ls p) [47] = b) :
    Calls Tryd.prog 23 #[.string p, .string ⟨#[47]⟩] w fun e w' => e = .returned (.bool b) ∧ w' = w := by
  rw [← h]; exact hasPrefix_lib p ⟨#[47]⟩ w

theorem nsplit_long (p : ByteArray) (w : World) (h : 120 < p.size) (hs : p.size ≤ maxLen) :
    Calls Tryd.prog 9 #[.string p] w fun e w' => e = .returned (.tuple #[.slice none 0 0, .int .i64 3]) ∧ w' = w := by
  unfold maxLen at hs
  have h' : (120 : Int) < (p.size : Int) := by omega
  go_enter Tryd.func9, Tryd.ntmps9
  go_wp2
  go_ret2
  exact ⟨rfl, rfl⟩
theorem nsplit_head (p : ByteArray) (w : World) (h : p.size ≤ 120) (h1 : Lib.hasPrefix (ls p) [47] = false) :
    Calls Tryd.prog 9 #[.string p] w fun e w' => e = .returned (.tuple #[.slice none 0 0, .int .i64 3]) ∧ w' = w := by
  have C : Hid (∀ w, Calls Tryd.prog 23 #[.string p, .string ⟨#[47]⟩] w fun e w' => e = .returned (.bool false) ∧ w' = w) := fun w => slash_any p false w h1
  clear h1
  go_enter Tryd.func9, Tryd.ntmps9
  go_wp2_with (go_at_call 23; refine Calls.mono (Hid.out C _) ?_; rintro e w' ⟨rfl, rfl⟩)
  go_ret2
  exact ⟨rfl, rfl⟩
theorem nsplit_root (p : ByteArray) (w : World) (h : ls p = [47]) :
    Calls Tryd.prog 9 #[.string p] w fun e w' => e = .returned (.tuple #[.slice none 0 0, .int .i64 0]) ∧ w' = w := by
  have hz : p.size = 1 := by rw [← ls_size, h]; rfl
  have C : Hid (∀ w, Calls Tryd.prog 23 #[.string p, .string ⟨#[47]⟩] w fun e w' => e = .returned (.bool true) ∧ w' = w) := fun w => slash_any p true w (by rw [h]; decide)
  have e1 := tl_eq' h
  clear h
  go_enter Tryd.func9, Tryd.ntmps9
  go_wp2_with (go_at_call 23; refine Calls.mono (Hid.out C _) ?_; rintro e w' ⟨rfl, rfl⟩)
  go_ret2
  exact ⟨rfl, rfl⟩

theorem ls_rest (p : ByteArray) : ls (p.extract 1 p.size) = (ls p).drop 1 := by
  unfold ls; rw [Lib.extract_data]
  rw [List.take_of_length_le (by simp)]

set_option maxHeartbeats 1000000 in
theorem nsplit_rest (p : ByteArray) (w : World) (hm : HM w) (h : p.size ≤ 120) (h0 : 1 ≤ p.size) (h1 : Lib.hasPrefix (ls p) [47] = true) (h2 : ¬ ls p = [47]) :
    Calls Tryd.prog 9 #[.string p] w fun e w' => Ans (Sp (ls p)) w e w' := by
  have E0 : Hid (Sp (ls p) = if (pcs ((ls p).drop 1)).all rt = true then some (pcs ((ls p).drop 1)) else none) := Sp_rest p h h1 h2
  have C : Hid (∀ w, Calls Tryd.prog 23 #[.string p, .string ⟨#[47]⟩] w fun e w' => e = .returned (.bool true) ∧ w' = w) := fun w => slash_any p true w h1
  have D : Hid (∀ w, HM w → Calls Tryd.prog 24 #[.string (p.extract 1 p.size), .string ⟨#[47]⟩] w fun e w' => ∃ B, e = .returned (.slice (some ⟨B, 0, none⟩) (mks (pcs ((ls p).drop 1))).length (mks (pcs ((ls p).drop 1))).length) ∧ TAt w' (some ⟨B, 0, none⟩) (mks (pcs ((ls p).drop 1))) ∧ Below w.heap.size w w') := by
    intro w hw
    have := split_any (p.extract 1 p.size) w (by rw [ByteArray.size_extract]; omega) hw
    rw [ls_rest] at this
    exact this
  have e1 := tl_ne h2
  have e2 := tl_ne' h2
  have hne : Hid (0 < (mks (pcs ((ls p).drop 1))).length) := by
    show 0 < _
    simp only [mks, List.length_map]
    have := pcs_ne ((ls p).drop 1)
    exact List.length_pos_iff.2 this
  have HL : Hid ((mks (pcs ((ls p).drop 1))).length ≤ 120) := by
    show _ ≤ 120
    simp only [mks, List.length_map]
    have := pcs_len ((ls p).drop 1)
    rw [List.length_drop, ls_size] at this
    omega
  have HS : Hid (∀ x ∈ mks (pcs ((ls p).drop 1)), x.size ≤ 120) := by
    intro x hx
    simp only [mks, List.mem_map] at hx
    obtain ⟨l, hl, rfl⟩ := hx
    have := pcs_mem _ l hl
    rw [List.length_drop, ls_size] at this
    rw [← ls_size, ls_mk]; omega
  have E1 : Hid (lss (mks (pcs ((ls p).drop 1))) = pcs ((ls p).drop 1)) := lss_mks _
  clear h1 h2
  obtain ⟨S, hS⟩ : ∃ S, Sp (ls p) = S := ⟨_, rfl⟩
  rw [hS] at E0 ⊢
  obtain ⟨q, hq⟩ : ∃ q, pcs ((ls p).drop 1) = q := ⟨_, rfl⟩
  rw [hq] at E0 D hne HL HS E1
  obtain ⟨xs, hxs⟩ : ∃ xs, mks q = xs := ⟨_, rfl⟩
  rw [hxs] at D hne HL HS E1
  obtain ⟨n, hn⟩ : ∃ n, xs.length = n := ⟨_, rfl⟩
  have HX : Hid (mks q = xs) := hxs
  have HN : Hid (xs.length = n) := hn
  rw [hn] at D hne HL
  have hl := HL.out
  clear hS hq hxs hn
  go_enter Tryd.func9, Tryd.ntmps9
  go_wp2_with (go_at_call 23; refine Calls.mono (Hid.out C _) ?_; rintro e w' ⟨rfl, rfl⟩)
  refine Calls.mono (Hid.out D _ hm) ?_
  rintro e w1 ⟨B, rfl, ht, hbel⟩
  have HT : Hid (∀ i, i < n → w1.cell? ⟨B, 0 + i, none⟩ = some (.string (nth xs i))) := by
    rcases ht with ht | ⟨b, o, e, _, hc⟩
    · have := HN.out; rw [ht] at this; have := hne.out; simp at *; omega
    · have := HN.out
      injection e with e
      injection e with e1 e2
      subst e1; subst e2; subst this
      exact hc
  have HTA : Hid (TAt w1 (some ⟨B, 0, none⟩) xs) := ht
  clear ht
  go_wp2
  go_loop [6, 22] (fun _ i => ∃ k : Nat, k ≤ n ∧ i = .int .i64 k ∧ Hid (rs xs k = true)) (fun _ i => n - (intOf i).toNat)
  case atStart => exact ⟨0, Nat.zero_le _, rfl, rs_zero xs⟩
  case round =>
    obtain ⟨k, hk, rfl, H⟩ := hrel
    by_cases hlt : k < n
    · have x1 := HT.out k hlt
      rw [Nat.zero_add] at x1
      have hlen := HN.out
      have HR : Hid (rs xs (k + 1) = (rs xs k && R (nth xs k))) := rs_succ xs k (by omega)
      have hml : (nth xs k).size ≤ maxLen := by
        have := HS.out _ (nth_mem xs k (by omega)); unfold maxLen; omega
      obtain ⟨X, hX⟩ : ∃ X, nth xs k = X := ⟨_, rfl⟩
      rw [hX] at x1 HR hml
      clear hX hlen
      have hb1 : (k : Int) < (n : Int) := by omega
      by_cases hr : R X = true
      · go_wp2_with (go_at_call 11; refine (right_any _ _ hml).mono ?_; rintro e w' ⟨rfl, rfl⟩)
        go_round
        case rel => exact ⟨k + 1, by omega, by go_num, by show rs xs (k + 1) = true; rw [HR.out, H.out, hr]; rfl⟩
        case measure => simp [intOf]; omega
      · have hr' : R X = false := by simpa using hr
        have E : Hid (S = none) := by
          show S = none
          rw [E0.out, if_neg]
          rw [← E1.out, rs_off xs (k + 1) (by rw [HR.out, hr', Bool.and_false])]
          simp
        clear hr
        go_wp2_with (go_at_call 11; refine (right_any _ _ hml).mono ?_; rintro e w' ⟨rfl, rfl⟩)
        go_ret2
        rw [E.out]
        exact ⟨rfl, hbel⟩
    · obtain rfl : k = n := by omega
      have E : Hid (S = some q) := by
        show S = some q
        rw [E0.out, if_pos]
        rw [← E1.out, ← rs_all xs k (by have := HN.out; omega)]
        exact H.out
      go_wp2
      go_ret2
      rw [E.out]
      refine ⟨some ⟨B, 0, none⟩, k, ?_, ?_, ?_, hbel⟩
      · rw [HX.out, HN.out]; rfl
      · rw [HX.out, HN.out]; exact Nat.le_refl _
      · rw [HX.out]; exact HTA.out

theorem nsplit_any (p : ByteArray) (w : World) (hm : HM w) (hs : p.size ≤ maxLen) :
    Calls Tryd.prog 9 #[.string p] w fun e w' => Ans (Sp (ls p)) w e w' := by
  by_cases h : 120 < p.size
  · rw [Sp_long p h]
    exact (nsplit_long p w h hs).mono fun e w' ⟨he, hw⟩ => ⟨he, hw ▸ Below.refl _ _⟩
  by_cases h1 : Lib.hasPrefix (ls p) [47] = true
  · by_cases h2 : ls p = [47]
    · rw [Sp_root p h2]
      exact (nsplit_root p w h2).mono fun e w' ⟨he, hw⟩ => ⟨none, 0, he, Nat.le_refl _, .inl rfl, hw ▸ Below.refl _ _⟩
    · refine nsplit_rest p w hm (by omega) ?_ h1 h2
      rcases Nat.lt_or_ge p.size 1 with h0 | h0
      · exfalso
        have : ls p = [] := List.length_eq_zero_iff.1 (by rw [ls_size]; omega)
        rw [this] at h1; revert h1; decide
      · exact h0
  · have h1' : Lib.hasPrefix (ls p) [47] = false := by simpa using h1
    rw [Sp_head p h1']
    exact (nsplit_head p w (by omega) h1').mono fun e w' ⟨he, hw⟩ => ⟨he, hw ▸ Below.refl _ _⟩
end Go.Proofs.YtlpikfebbfcofaaDoor
