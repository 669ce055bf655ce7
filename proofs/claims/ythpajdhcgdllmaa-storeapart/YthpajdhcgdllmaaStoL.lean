/- That the laws' head answers true. -/
import Derived.Test.YthpajdhcgdllmaaStoM
namespace Go.Proofs.Ythpajdhcgdllmaa
open Go.RowKit Go.Maps Go.ChangeMaps

set_option maxHeartbeats 2000000 in
theorem lives_any (w : World) : Calls Try.prog 7 #[] w fun e w' => e = .returned (.bool true) ∧ Below w.heap.size w w' := by
  go_enter Try.func7, Try.ntmps7
  go_wp2_with fail
  refine (image_nil _).mono ?_
  rintro e w1 ⟨G, rfl, hr, _, hb1⟩
  have HB1 : Hid (Below w.heap.size w w1) := hb1
  go_wp2_with fail
  refine (load_img G headN _ hr (fun i _ => headN_wf i)).mono ?_
  rintro e w2 ⟨L, rfl, hm2, _, hb2⟩
  have HM2 : Hid (MemIs w2 L M0) := hm2
  have HBB : Hid (Below w1.heap.size w1 w2) := hb2
  clear hr hb1 hm2 hb2
  go_wp2_with fail
  refine (vnew_yes L M0 w2 HM2.out M0_len).mono ?_
  rintro e w3 ⟨rfl, hv3, hb3⟩
  have hs := begin_ses HB1.out HM2.out HBB.out hv3 hb3
  obtain ⟨V, hV⟩ : ∃ A, newLay L.mb w2.heap.size = A := ⟨_, rfl⟩
  rw [hV] at hs
  have HS3 : Hid (Ses w w3 V Vw.new 0 L M0) := hs
  have HVV : Hid (V.vb = w2.heap.size) := by rw [← hV]; rfl
  rw [← HVV.out]
  clear hv3 hb3 hV hs HB1 HM2 HBB
  have T0 : Hid (Taken Vw.new 0) := taken_new
  have T1 : Hid (Taken (Vw.new.give (0 : Nat) 3) 1) := T0.out.give (by omega) (by omega)
  have T2 : Hid (Taken ((Vw.new.give (0 : Nat) 3).give (1 : Nat) 3) 2) := T1.out.give (by omega) (by omega)
  go_wp2_with fail
  refine (take_yes V Vw.new 0 L M0 3 0 w3 HS3.out.on (by omega) (by omega) (by omega) (by omega) (by rw [T0.out.own 0 (by omega)]; rfl) (fun j hj => absurd hj (Nat.not_lt_zero j))).mono ?_
  rintro e w4 ⟨rfl, ho4, hx4⟩
  have HS4 : Hid (Ses w w4 V (Vw.new.give (0 : Nat) 3) 17 L M0) := HS3.out.step ho4 hx4
  clear ho4 hx4
  go_wp2_with fail
  refine (take_yes V _ 17 L M0 3 1 w4 HS4.out.on (by omega) (by omega) (by omega) (by omega) (by rw [T1.out.own 1 (by omega)]; rfl) (fun j hj => by rw [T1.out.own j (by omega)]; simp; omega)).mono ?_
  rintro e w5 ⟨rfl, ho5, hx5⟩
  have HS5 : Hid (Ses w w5 V ((Vw.new.give (0 : Nat) 3).give (1 : Nat) 3) 34 L M0) := HS4.out.step ho5 hx5
  clear ho5 hx5
  have N2 : Hid (Noded ((Vw.new.give (0 : Nat) 3).give (1 : Nat) 3) 2 2) := T2.out.noded
  go_wp2_with fail
  refine (node_yes V _ 34 L M0 1 w5 HS5.out.on (.inl rfl) 2 _ (by omega) (by omega) (by omega) (by rw [N2.out.free 2 (by omega) (by omega)]; rfl) (fun j h2 hj => by omega) rfl).mono ?_
  rintro e w6 ⟨rfl, ho6, hx6⟩
  obtain ⟨S, hS⟩ : ∃ S, ((Vw.new.give (0 : Nat) 3).give (1 : Nat) 3).setC (2 : Nat) 1 1 0 (IntKind.u64.wrap (((Vw.new.give (0 : Nat) 3).give (1 : Nat) 3).word M0 (8 + 8 * ((2 : Nat) : Int) + 1) + 1)) (-1) (-1) (-1) (-1) (-1) (-1) = S := ⟨_, rfl⟩
  rw [hS] at ho6
  have HS6 : Hid (Ses w w6 V S 44 L M0) := HS5.out.step ho6 hx6
  have HN : Hid (nFresh S M0 96 = 94) := by
    have := nFresh_noded T2.out (by rw [← hS]; exact N2.out.set (by omega) (by omega) (.inl rfl) : Noded S 2 3)
    exact this
  have HW : Hid (S.word M0 (200 + 1) = 4) := by
    rw [← hS, setC_out _ _ _ _ _ _ _ _ _ _ _ _ _ _ (by omega), give_word _ _ _ _ _ (by omega) (by omega) (by omega)]
    rfl
  clear ho6 hx6 hS
  have HO : Hid (Calls Try.prog 16 #[.pointer (some ⟨V.vb, 0, none⟩), .int .i64 1] w6 fun e w' => e = .returned (.tuple #[.int .i64 3, .int .i64 0]) ∧ Below w6.heap.size w6 w') := by
    have := sowner_yes V S 44 L M0 1 w6 HS6.out.on (by omega) (by omega)
    rw [HW.out] at this
    exact this
  go_wp2_with fail
  refine Calls.mono (Hid.out HO) ?_
  rintro e w7 ⟨rfl, hb7⟩
  have HS7 : Hid (Ses w w7 V S 44 L M0) := HS6.out.later hb7
  clear hb7
  have HF : Hid (Calls Try.prog 15 #[.pointer (some ⟨V.vb, 0, none⟩)] w7 fun e w' => e = .returned (.int .i64 94) ∧ Below w7.heap.size w7 w') := by
    have := free_any V S 44 L M0 w7 HS7.out.on
    rw [HN.out] at this
    exact this
  go_wp2_with (first
    | (go_at_call 15; refine Calls.mono (Hid.out HF) ?_; rintro e w8 ⟨rfl, hb8⟩; have HS8 : Hid (Ses w w8 V S 44 L M0) := HS7.out.later hb8; clear hb8)
    | go_in)
  go_ret
  exact ⟨rfl, HS8.out.bel⟩

end Go.Proofs.Ythpajdhcgdllmaa
