/- The walk of NamesBack: for every text it answers true. -/
import Derived.Test.YtlpikfebbfcofaaDoorLives
namespace Go.Proofs.YtlpikfebbfcofaaDoor.namesBack
open Go.RowKit

/-- Join of a list whose path is known -/
theorem join_is (a : Option Addr) (c : Nat) (xs : List (List UInt8)) (p : ByteArray) (w : World) (h : TAt w a (mks xs)) (hc : (mks xs).length ≤ c) (hS : Sp (ls p) = some xs) :
    Calls Tryd.prog 20 #[.slice a (mks xs).length c] w fun e w' => e = .returned (.tuple #[.string p, .int .i64 0]) ∧ Below w.heap.size w w' := by
  obtain ⟨hlen, hz⟩ := Sp_small hS
  refine (join_any a c (mks xs) w h (by rw [mks_len]; omega) hc hz).mono fun e w' ⟨he, hw⟩ => ⟨?_, hw⟩
  rw [he, lss_mks, Jn_of_Sp hS]
  rfl

set_option maxHeartbeats 2000000 in
theorem walk (p : ByteArray) (w : World) (hm : HM w) (hs : p.size ≤ 140737488351232) :
    Calls Tryd.prog 6 #[.string p] w fun e w' => e = .returned (.bool true) ∧ Below w.heap.size w w' := by
  have hml : p.size ≤ maxLen := by unfold maxLen; omega
  have S : Hid (∀ w, HM w → Calls Tryd.prog 9 #[.string p] w fun e w' => Ans (Sp (ls p)) w e w') := fun w hm => nsplit_any p w hm hml
  have P : Hid (∀ w, HM w → Calls Tryd.prog 14 #[.string p] w fun e w' => e = .returned (pv (ls p)) ∧ Below w.heap.size w w') := fun w hm => parent_any p w hm hml
  cases hS : Sp (ls p) with
  | none =>
    have U : Hid (∀ w, HM w → Calls Tryd.prog 16 #[.string p, .string p] w fun e w' => e = .returned (.bool false) ∧ Below w.heap.size w w') := fun w hm => Un_noneA (b := ls p) hS ▸ under_any p p w hm hml hml
    rw [hS] at S
    clear hS P
    go_enter Tryd.func6, Tryd.ntmps6
    go_wp2_with fail
    refine (lives_any _ hm).mono ?_
    rintro e w1 ⟨rfl, hb1⟩
    have hm1 := hm.below hb1
    go_wp2_with fail
    refine Calls.mono (Hid.out S _ hm1) ?_
    rintro e w2 ⟨rfl, hb2⟩
    have hm2 := hm1.below hb2
    go_wp2_with fail
    refine Calls.mono (Hid.out U _ hm2) ?_
    rintro e w3 ⟨rfl, hb3⟩
    go_wp2
    go_ret
    exact ⟨rfl, below_chain (below_chain hb1 hb2) hb3⟩
  | some ys =>
    have J : Hid (∀ a c w, TAt w a (mks ys) → (mks ys).length ≤ c → Calls Tryd.prog 20 #[.slice a (mks ys).length c] w fun e w' => e = .returned (.tuple #[.string p, .int .i64 0]) ∧ Below w.heap.size w w') := fun a c w h hc => join_is a c ys p w h hc hS
    rcases List.eq_nil_or_concat ys with rfl | ⟨xs, x, rfl⟩
    · rw [pv_root hS] at P
      rw [hS] at S
      clear hS
      go_enter Tryd.func6, Tryd.ntmps6
      go_wp2_with fail
      refine (lives_any _ hm).mono ?_
      rintro e w1 ⟨rfl, hb1⟩
      have hm1 := hm.below hb1
      go_wp2_with fail
      refine Calls.mono (Hid.out S _ hm1) ?_
      rintro e w2 ⟨a, c, rfl, hc, ht, hb2⟩
      have hm2 := hm1.below hb2
      go_wp2_with fail
      refine Calls.mono (Hid.out J a c _ ht hc) ?_
      rintro e w3 ⟨rfl, hb3⟩
      have hm3 := hm2.below hb3
      simp only [mks, List.map_nil, List.length_nil]
      go_wp2_with fail
      refine Calls.mono (Hid.out P _ hm3) ?_
      rintro e w4 ⟨rfl, hb4⟩
      go_wp2
      go_ret
      exact ⟨rfl, below_chain (below_chain (below_chain hb1 hb2) hb3) hb4⟩
    · rw [List.concat_eq_append] at hS J
      have hJ := Jn_init (Jn_of_Sp hS)
      have hU := Sp_of_Jn hJ
      obtain ⟨u1, u2⟩ := Un_up hS hU
      have u3 := Un_self hS
      obtain ⟨hlen, _⟩ := Sp_small hS
      have hup : (mk (pth xs)).size ≤ maxLen := by
        rw [← ls_size, ls_mk]
        unfold Jn at hJ
        split at hJ
        · rename_i hc
          unfold pth; split
          · unfold maxLen; simp
          · unfold maxLen; omega
        · cases hJ
      have U1 : Hid (∀ w, HM w → Calls Tryd.prog 16 #[.string (mk (pth xs)), .string p] w fun e w' => e = .returned (.bool true) ∧ Below w.heap.size w w') := fun w hm => u1 ▸ under_any (mk (pth xs)) p w hm hup hml
      have U2 : Hid (∀ w, HM w → Calls Tryd.prog 16 #[.string p, .string p] w fun e w' => e = .returned (.bool true) ∧ Below w.heap.size w w') := fun w hm => u3 ▸ under_any p p w hm hml hml
      have U3 : Hid (∀ w, HM w → Calls Tryd.prog 16 #[.string p, .string (mk (pth xs))] w fun e w' => e = .returned (.bool false) ∧ Below w.heap.size w w') := fun w hm => u2 ▸ under_any p (mk (pth xs)) w hm hml hup
      rw [pv_some hS] at P
      rw [hS] at S
      have hlen2 : (mks xs).length ≤ 119 := by rw [mks_len]; simp at hlen; omega
      obtain ⟨up, hupe⟩ : ∃ up, mk (pth xs) = up := ⟨_, rfl⟩
      rw [hupe] at U1 U3 P
      clear hS hJ hU u1 u2 u3 hlen hup hupe
      go_enter Tryd.func6, Tryd.ntmps6
      go_wp2_with fail
      refine (lives_any _ hm).mono ?_
      rintro e w1 ⟨rfl, hb1⟩
      have hm1 := hm.below hb1
      go_wp2_with fail
      refine Calls.mono (Hid.out S _ hm1) ?_
      rintro e w2 ⟨a, c, rfl, hc, ht, hb2⟩
      have hm2 := hm1.below hb2
      go_wp2_with fail
      refine Calls.mono (Hid.out J a c _ ht hc) ?_
      rintro e w3 ⟨rfl, hb3⟩
      have hm3 := hm2.below hb3
      rw [mks_snoc] at hc ht ⊢
      obtain ⟨b, o, rfl, hbl, hcell⟩ := ht.resolve_left (by simp)
      have cl := hcell (mks xs).length (by simp)
      rw [nth_snoc] at cl
      have TA : Hid (∀ w4, Below w2.heap.size w2 w4 → w4.cell? ⟨b, o + (mks xs).length, none⟩ = some (.string (mk x))) := fun w4 h2 => (h2.cell (p := ⟨b, o + (mks xs).length, none⟩) hbl).trans cl
      simp only [List.length_append, List.length_singleton] at hc ⊢
      obtain ⟨n, hn⟩ : ∃ n, (mks xs).length = n := ⟨_, rfl⟩
      rw [hn] at hlen2 hc TA ⊢
      clear hcell cl ht hn J S
      obtain ⟨X, hX⟩ : ∃ X, mk x = X := ⟨_, rfl⟩
      rw [hX] at P TA
      clear hX
      have hne : (((n + 1 : Nat) : Int) == 0) = false := by simp; omega
      have hne' : ¬ ((n + 1 : Nat) : Int) = 0 := by omega
      have hsub : ((n + 1 : Nat) : Int) - 1 = (n : Int) := by omega
      obtain ⟨N, hN⟩ : ∃ N, n + 1 = N := ⟨_, rfl⟩
      rw [hN] at hc hne hne' hsub ⊢
      have hN1 : (n : Int) < (N : Int) := by omega
      have hN2 : N ≤ 120 := by omega
      clear hN
      go_wp2_with fail
      refine Calls.mono (Hid.out P _ hm3) ?_
      rintro e w4 ⟨rfl, hb4⟩
      have hm4 := hm3.below hb4
      have cl := TA.out w4 (below_chain hb3 hb4)
      go_wp2_with fail
      refine Calls.mono (Hid.out U1 _ hm4) ?_
      rintro e w5 ⟨rfl, hb5⟩
      have hm5 := hm4.below hb5
      go_wp2_with fail
      refine Calls.mono (Hid.out U2 _ hm5) ?_
      rintro e w6 ⟨rfl, hb6⟩
      have hm6 := hm5.below hb6
      go_wp2_with fail
      refine Calls.mono (Hid.out U3 _ hm6) ?_
      rintro e w7 ⟨rfl, hb7⟩
      go_wp2
      go_ret
      exact ⟨rfl, below_chain (below_chain (below_chain (below_chain (below_chain (below_chain hb1 hb2) hb3) hb4) hb5) hb6) hb7⟩
end Go.Proofs.YtlpikfebbfcofaaDoor.namesBack
