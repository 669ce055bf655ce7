/- What is proved: the given statement StoreAllSaid: for every two numbers the law returns true, and its arguments read afterwards as before. There are no further conditions. -/
import Derived.Test.YthpajdhcgdllmaaRows
import Derived.Test.YthpajdhcgdllmaaStoL
import Derived.Test.YthpajdhcgdllmaaAr9
namespace Go.Proofs.Ythpajdhcgdllmaa.storeAll
open Go.RowKit Go.Maps Go.ChangeMaps Go.ChangeShapes Go.WideShapes Go.ChangeAt Go.Deep Go.Joins
set_option linter.unusedVariables false

set_option maxHeartbeats 4000000 in
theorem walk (a0 a1 : Int) (w : World) (_ : -9223372036854775808 ≤ a0 ∧ a0 ≤ 9223372036854775807) (_ : -9223372036854775808 ≤ a1 ∧ a1 ≤ 9223372036854775807) :
    Calls Try.prog 6 #[.int .i64 a0, .int .i64 a1] w fun e w' => e = .returned (.bool true) ∧ Below w.heap.size w w' := by
  obtain ⟨qn, hqn, hn1, hn2⟩ := place_in a0 24 (by omega) (by omega)
  obtain ⟨qk, hqk, hk1, hk2⟩ := place_in a1 3 (by omega) (by omega)
  obtain ⟨kind, hkind⟩ : ∃ kind : Int, 1 + (qk : Int) = kind := ⟨_, rfl⟩
  have HK : Hid (kind = 1 ∨ kind = 2 ∨ kind = 3) := by show _ ∨ _ ∨ _; omega
  have HQN : Hid ((qn : Int) < 24) := hqn
  have HKB : Hid (1 + (qk : Int) = kind) := hkind
  go_enter Try.func6, Try.ntmps6
  go_wp2_with fail
  refine (lives_any _).mono ?_
  rintro e w0 ⟨rfl, hb0⟩
  have HB0 : Hid (Below w.heap.size w w0) := hb0
  clear hb0
  go_wp2_with fail
  refine (image_nil _).mono ?_
  rintro e w1 ⟨G, rfl, hr, _, hb1⟩
  have HB1 : Hid (Below w.heap.size w w1) := HB0.out.trans (hb1.mono HB0.out.size)
  go_wp2_with fail
  refine (load_img G headN _ hr (fun i _ => headN_wf i)).mono ?_
  rintro e w2 ⟨L, rfl, hm2, _, hb2⟩
  have HM2 : Hid (MemIs w2 L M0) := hm2
  have HBB : Hid (Below w1.heap.size w1 w2) := hb2
  clear hr hb1 hm2 hb2
  go_wp2_with fail
  refine (vnew_yes L M0 w2 HM2.out M0_len).mono ?_
  rintro e w3 ⟨rfl, hv3, hb3⟩
  have hs := begin_ses HB1.out HM2.out HBB.out hv3 hb3
  obtain ⟨V, hV⟩ : ∃ A, newLay L.mb w2.heap.size = A := ⟨_, rfl⟩
  rw [hV] at hs
  have HS3 : Hid (Ses w w3 V Vw.new 0 L M0) := hs
  have HVV : Hid (V.vb = w2.heap.size) := by rw [← hV]; rfl
  rw [← HVV.out]
  clear hv3 hb3 hV hs HB1 HM2 HBB HB0
  go_wp2
  try rw [HKB.out]
  clear hqn hqk hn1 hn2 hk1 hk2 hkind
  go_loopw [6, 7, 8] (fun i _ _ wr => ∃ (b : Nat) (S : Vw), b ≤ 96 ∧ i = .int .i64 b ∧ Hid (Ses w wr V S (17 * b) L M0 ∧ Taken S b)) (fun i _ _ _ => 96 - (intOf i).toNat)
  case atStart => exact ⟨0, Vw.new, by omega, rfl, HS3.out, taken_new⟩
  case round =>
    obtain ⟨b, S, hb, rfl, HR⟩ := hrel
    by_cases hlt : b < 96
    · have hbi : (b : Int) < 96 := by omega
      go_wp2_with fail
      refine (take_yes V S (17 * b) L M0 qn b _ HR.out.1.on (by omega) (by omega) HQN.out hlt (by rw [HR.out.2.own b hlt]; simp) (fun j hj => by rw [HR.out.2.own j (by omega)]; simp; omega)).mono ?_
      rintro e w4 ⟨rfl, ho4, hx4⟩
      have HS4 : Hid (Ses w w4 V (S.give b qn) (17 * b + 17) L M0) := HR.out.1.step ho4 hx4
      have HT4 : Hid (Taken (S.give b qn) (b + 1)) := HR.out.2.give hlt (by omega)
      clear ho4 hx4
      have HF : Hid (Calls Try.prog 15 #[.pointer (some ⟨V.vb, 0, none⟩)] w4 fun e w' => e = .returned (.int .i64 (95 - (b : Int))) ∧ Below w4.heap.size w4 w') := by
        have := free_any V (S.give b qn) _ L M0 w4 HS4.out.on
        rw [HT4.out.count 96 (Nat.le_refl _), show (((96 - (b + 1) : Nat)) : Int) = 95 - (b : Int) by omega] at this
        exact this
      go_wp2_with (first
        | (go_at_call 15; refine Calls.mono (Hid.out HF) ?_; rintro e w5 ⟨rfl, hb5⟩; have HS5 : Hid (Ses w w5 V (S.give b qn) (17 * b + 17) L M0) := HS4.out.later hb5; clear hb5)
        | go_in)
      go_roundw
      case rel => exact ⟨b + 1, S.give b qn, by omega, by go_num, HS5.out.mono (by omega), HT4.out⟩
      case measure => simp [intOf]; omega
    · have hb96 : b = 96 := by omega
      have HN0 : Hid (Noded S 96 2) := by have := HR.out.2.noded; rw [hb96] at this; exact this
      have HS0 : Hid (Ses w wr V S (17 * 96) L M0) := by have := HR.out.1; rw [hb96] at this; exact this
      have hge : ¬ ((b : Int) < 96) := by omega
      clear HR hb96 hlt hb
      go_wp2
      go_loopw [9, 10, 11, 12, 13] (fun i _ _ _ _ wr => ∃ (n : Nat) (S : Vw), 2 ≤ n ∧ n ≤ 24 ∧ i = .int .i64 n ∧ Hid (Ses w wr V S (17 * 96 + 11 * n) L M0 ∧ Noded S 96 n)) (fun i _ _ _ _ _ => 24 - (intOf i).toNat)
      case atStart => exact ⟨2, S, by omega, by omega, rfl, HS0.out.mono (by omega), HN0.out⟩
      case round =>
        obtain ⟨n, S, hn2, hn, rfl, HR⟩ := hrel
        by_cases hlt : n < 24
        · have hbi : (n : Int) < 24 := by omega
          obtain ⟨v, hv⟩ : ∃ v, IntKind.u64.wrap (S.word M0 (8 + 8 * (n : Int) + 1) + 1) = v := ⟨_, rfl⟩
          go_wp2_with fail
          refine (node_yes V S (17 * 96 + 11 * n) L M0 kind _ HR.out.1.on HK.out n v (by omega) hn2 hlt (by rw [HR.out.2.free n hn2 hlt]; simp) (fun j h2 hj => by rw [HR.out.2.free j h2 (by omega)]; simp; omega) hv).mono ?_
          rintro e w4 ⟨rfl, ho4, hx4⟩
          have HS4 : Hid (Ses w w4 V (S.setC n kind 1 0 v (-1) (-1) (-1) (-1) (-1) (-1)) (17 * 96 + 11 * n + 10) L M0) := HR.out.1.step ho4 hx4
          have HT4 : Hid (Noded (S.setC n kind 1 0 v (-1) (-1) (-1) (-1) (-1) (-1)) 96 (n + 1)) := HR.out.2.set hn2 hlt HK.out
          clear ho4 hx4 hv
          go_wp2_with fail
          refine (vcard_back V _ _ L M0 n kind 1 0 v (-1) (-1) (-1) (-1) (-1) (-1) _ HS4.out.on (by omega) (by omega) (by omega) (rt_fresh HK.out) (setC_card _ _ _ _ _ _ _ _ _ _ _ _ _)).mono ?_
          rintro e w5 ⟨rfl, ho5, hx5⟩
          have HS5 := HS4.out.step ho5 hx5
          obtain ⟨S5, hS5⟩ : ∃ S5, ({ (S.setC n kind 1 0 v (-1) (-1) (-1) (-1) (-1) (-1)) with seen := addB (S.setC n kind 1 0 v (-1) (-1) (-1) (-1) (-1) (-1)).seen n } : Vw) = S5 := ⟨_, rfl⟩
          rw [hS5] at HS5
          have HS5' : Hid (Ses w w5 V S5 (17 * 96 + 11 * n + 11) L M0) := HS5
          have HT5 : Hid (Noded S5 96 (n + 1)) := by rw [← hS5]; exact HT4.out.seen _
          clear ho5 hx5 HS5 hS5 HS4 HT4
          obtain ⟨W, hW, HSZ, HE, HCELL⟩ := Cd.new_card w5 kind 1 0 v (-1) (-1) (-1) (-1) (-1) (-1)
          have HBW : Hid (Below w5.heap.size w5 W) := HE.out W (Below.refl _ _)
          obtain ⟨c0, c1, c2, c3, c4, c5, c6, c7, c8, c9⟩ := HCELL.out W (Below.refl _ _)
          rw [← hW] at c0 HBW
          clear hW c1 c2 c3 c4 c5 c6 c7 c8 c9 HSZ HE HCELL
          go_wp2
          go_roundw
          case rel => exact ⟨n + 1, S5, by omega, by omega, by go_num, (HS5'.out.later HBW.out).mono (by omega), HT5.out⟩
          case measure => simp [intOf]; omega
        · obtain rfl : n = 24 := by omega
          go_wp2_with fail
          refine (take_full V S _ L M0 qn _ HR.out.1.on (by omega) HQN.out (fun j hj => by rw [HR.out.2.own j hj]; simp; omega)).mono ?_
          rintro e w4 ⟨rfl, hb4⟩
          have HS4 : Hid (Ses w w4 V S _ L M0) := HR.out.1.later hb4
          clear hb4
          go_wp2_with fail
          refine (node_full V S _ L M0 kind _ HS4.out.on HK.out (fun j h2 hj => by rw [HR.out.2.free j h2 hj]; simp; omega)).mono ?_
          rintro e w5 ⟨rfl, hb5⟩
          have HS5 : Hid (Ses w w5 V S _ L M0) := HS4.out.later hb5
          clear hb5
          go_wp2
          go_ret
          exact ⟨rfl, HS5.out.bel⟩

set_option maxRecDepth 100000 in
theorem lifted (os : Os) (started : os.Started) (H : Type) (enc : TypeId × Value → H) :
    ReturnsInHanded {} Try.checked os 6 .any (Rows.storeAllSpec.pre6 enc Try.prog Try.f6 Rows.storeAllRow.domain false) (Rows.storeAllSpec.post enc Try.prog Try.f6 false true false false) := by
  refine returnsInHanded_of_change (C := Try.checked) own started (by kernel_rfl) Try.func6
    (ChangeSpec.witness6 (enc := enc) (C := Try.checked) false ⟨#[], #[.int .i64 0, .int .i64 0], []⟩ 8 (by kernel_rfl) (by kernel_rfl) (by kernel_rfl) (by kernel_rfl)) ?_
  intro W base args ds gs before hval0 hW hcnd _
  have hval : ∀ (j : Nat) t v, Try.f6.params[j]? = some t → args[j]? = some v → Value.okWide Try.prog W .any base t v := hval0
  have hW' := hW
  obtain ⟨p, q, hA0, hV, rfl, hfz, hnd⟩ := hW
  have hA : DataW.TrodAll enc Try.prog W 0 (fun _ => true) true Try.f6.params.toList args.toList ds p := hA0
  rw [Try.params6] at hA hval
  obtain ⟨v0, vs0, d0, ds0, p0, q0, hargs, rfl, rfl, h0, r0⟩ := trodAll_cons hA
  obtain ⟨v1, vs1, d1, ds1, p1, q1, rfl, rfl, rfl, h1, r1⟩ := trodAll_cons r0
  obtain ⟨rfl, rfl, rfl⟩ := trodAll_nil r1
  obtain rfl : args = #[v0, v1] := by cases args; simp_all
  obtain ⟨rfl, rfl⟩ := trodVars_none hV
  obtain ⟨a0, rfl, rfl, rfl, w0⟩ := open_int Try.underlying3 (hval 0 3 v0 rfl rfl) h0
  obtain ⟨a1, rfl, rfl, rfl, w1⟩ := open_int Try.underlying3 (hval 1 3 v1 rfl rfl) h1
  clear hA0 hval0
  refine (walk a0 a1 W (bounds_i64 w0) (bounds_i64 w1)).mono fun e W' ⟨he, bel⟩ => ?_
  subst he
  exact ⟨_, rfl, _, _, _, [], _, [], hW', trodAll_mk1 (shut_bool Try.underlying4 _), (trodAll_cons_mk (shut_int Try.underlying3 w0) (trodAll_cons_mk (shut_int Try.underlying3 w1) trodAll_mk0)), rfl, bel.frame _, fun h => by cases h⟩

theorem over : Rows.storeAllRow.holds Try.pinned (OpenSpec.ofChange Rows.storeAllSpec) :=
  OpenClaim.holds_of_wide 6 Try.f6 rfl rfl rfl rfl rfl rfl rfl ⟨rfl, rfl, rfl, rfl, rfl⟩ rfl rfl rfl rfl rfl (by kernel_rfl) Try.func6 (by kernel_rfl)
    (of_decide_eq_true (by kernel_rfl)) (by unfold Func.isWrapper; first | (rw [if_pos (by decide +kernel)]; kernel_rfl) | (rw [if_neg (by decide +kernel)]; exact ⟨rfl, rfl⟩))
    (fun os started H enc _ => lifted os started H enc)

theorem proved : Rows.StoreAllSaid := over
#print axioms proved
end Go.Proofs.Ythpajdhcgdllmaa.storeAll
