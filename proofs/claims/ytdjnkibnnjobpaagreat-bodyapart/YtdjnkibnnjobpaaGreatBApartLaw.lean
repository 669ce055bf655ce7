/- BodyApart: two files don't touch one another; each block is one's own, and all others are free. No condition. -/
import Derived.Test.YtdjnkibnnjobpaaGreatBdZa
import Derived.Test.YtdjnkibnnjobpaaGreatRows
import Derived.Test.YtdjnkibnnjobpaaGreatChecked
namespace Go.Proofs.YtdjnkibnnjobpaaGreat.bodyApart
open Go.RowKit Go.Maps Go.ChangeMaps Go.ChangeShapes Go.WideShapes Go.ChangeAt Go.Deep Go.Joins
set_option linter.unusedVariables false
set_option linter.unusedSimpArgs false

/-- A step as it lies in a script. -/
theorem op_cells {w v : World} {g o : Nat} {j : Nat} {oo : Bop} (hgl : g < w.heap.size) (hb : Below w.heap.size w v) (x : ∀ i, i < 4 → w.cell? ⟨g, o + j * 4 + i, none⟩ = oo.vals[i]?) :
    v.cell? ⟨g, o + j * 4, none⟩ = some (.int .i64 oo.kind) ∧ v.cell? ⟨g, o + j * 4 + 1, none⟩ = some (.int .i64 oo.at_) ∧ v.cell? ⟨g, o + j * 4 + 2, none⟩ = some (.int .i64 oo.n) ∧ v.cell? ⟨g, o + j * 4 + 3, none⟩ = some (.string oo.data) := by
  have hx : ∀ i, v.cell? ⟨g, i, none⟩ = w.cell? ⟨g, i, none⟩ := fun i => World.cell?_of_block (a := ⟨g, i, none⟩) (hb.block g hgl)
  exact ⟨by rw [hx]; exact x 0 (by omega), by rw [hx]; exact x 1 (by omega), by rw [hx]; exact x 2 (by omega), by rw [hx]; exact x 3 (by omega)⟩
set_option maxHeartbeats 8000000 in
set_option maxRecDepth 100000 in
theorem walk (aa : Option Addr) (ac : Nat) (as_ : List Bop) (ba : Option Addr) (bc : Nat) (bs : List Bop) (w : World) (ha : BopsIn w aa ac as_) (hb_ : BopsIn w ba bc bs) :
    Calls Tryz.prog 4 #[.slice aa as_.length ac, .slice ba bs.length bc] w fun e w' => e = .returned (.bool true) ∧ Below w.heap.size w w' := by
  have HA : Hid (BopsIn w aa ac (as_.take 50)) := ha.take 50
  have HB : Hid (BopsIn w ba bc (bs.take 50)) := hb_.take 50
  have EA : Hid (∀ w', Calls Tryz.prog 9 #[.slice aa as_.length ac] w' fun e w'' => e = .returned (.slice aa (as_.take 50).length ac) ∧ w'' = w') := fun w' => early_any w w' aa ac as_ ha
  have EB : Hid (∀ w', Calls Tryz.prog 9 #[.slice ba bs.length bc] w' fun e w'' => e = .returned (.slice ba (bs.take 50).length bc) ∧ w'' = w') := fun w' => early_any w w' ba bc bs hb_
  obtain ⟨las, hlas⟩ : ∃ n, as_.length = n := ⟨_, rfl⟩
  obtain ⟨lbs, hlbs⟩ : ∃ n, bs.length = n := ⟨_, rfl⟩
  have h60a : (as_.take 50).length ≤ 50 := by rw [List.length_take]; omega
  have h60b : (bs.take 50).length ≤ 50 := by rw [List.length_take]; omega
  obtain ⟨xs, hxs⟩ : ∃ l, as_.take 50 = l := ⟨_, rfl⟩
  obtain ⟨ys, hys⟩ : ∃ l, bs.take 50 = l := ⟨_, rfl⟩
  rw [hlas] at EA ⊢
  rw [hlbs] at EB ⊢
  rw [hxs] at HA EA h60a
  rw [hys] at HB EB h60b
  obtain ⟨na, hna⟩ : ∃ n, xs.length = n := ⟨_, rfl⟩
  obtain ⟨nb, hnb⟩ : ∃ n, ys.length = n := ⟨_, rfl⟩
  have HNA : Hid (xs.length = na) := hna
  have HNB : Hid (ys.length = nb) := hnb
  rw [hna] at EA h60a
  rw [hnb] at EB h60b
  obtain ⟨mx, hmx⟩ : ∃ n, max na nb = n := ⟨_, rfl⟩
  have HMX : Hid (na ≤ mx ∧ nb ≤ mx ∧ mx ≤ 50 ∧ (mx = na ∨ mx = nb)) := by show _ ∧ _; omega
  clear ha hb_ hlas hlbs hxs hys hna hnb hmx
  have pk0 := pick0
  go_enter Tryz.func4, Tryz.ntmps4
  go_wp2_with fail
  refine (lives_any _).mono ?_
  rintro e w0 ⟨rfl, hb0⟩
  have HB0 : Hid (Below w.heap.size w w0) := hb0
  clear hb0
  go_wp2_with fail
  refine (two_any _).mono ?_
  rintro e w1 ⟨b1, b2, V, L, rfl, hne, hf1, hf2, hb1, hlow1, hlow2, hlv, hll⟩
  have hsz := HB0.out.size
  have HAP : Hid (Ap w (w1.alloc (.cells #[.pointer (some ⟨b1, 0, none⟩), .pointer (some ⟨b2, 0, none⟩)] 25)) w1.heap.size b1 b2 V Vw.new L M0 0 newC ⟨#[]⟩ newC ⟨#[]⟩) :=
    Ap.begin hf1 hf2 hne M0_two (HB0.out.trans (hb1.mono hsz)) (by omega) (by omega) (fun x hx => by have := hlv x hx; omega) (fun x hx => by have := hll x hx; omega)
  clear hf1 hf2 hb1 hlow1 hlow2 hlv hll hne hsz HB0
  go_wp2_with fail
  obtain ⟨xb, hxb⟩ : ∃ x, w1.heap.size = x := ⟨_, rfl⟩
  obtain ⟨wA, hwA⟩ : ∃ x, (w1.alloc (.cells #[.pointer (some ⟨b1, 0, none⟩), .pointer (some ⟨b2, 0, none⟩)] 25)) = x := ⟨_, rfl⟩
  rw [hwA, hxb] at HAP
  rw [hwA, hxb]
  clear hwA hxb
  refine Calls.mono (EA.out _) ?_
  rintro e w2 ⟨rfl, rfl⟩
  go_wp2_with fail
  refine Calls.mono (EB.out _) ?_
  rintro e w2 ⟨rfl, hw⟩
  obtain rfl := hw.symm
  go_wp2
  go_loopw [6] (fun i wr => ∃ (j : Nat) (V' : VLay) (S' : Vw) (M' : Mem) (c1 : Crd) (t1 : ByteArray) (c2 : Crd) (t2 : ByteArray), j ≤ mx ∧ i = .int .i64 j ∧ Hid (Ap w wr xb b1 b2 V' S' L M' (5648 * j) c1 t1 c2 t2)) (fun i _ => mx - (intOf i).toNat)
  case atStart => exact ⟨0, V, _, _, _, _, _, _, Nat.zero_le _, rfl, HAP⟩
  case round =>
    obtain ⟨j, V', S', M', c1, t1, c2, t2, hj, rfl, HP⟩ := hrel
    have hm50 := HMX.out.2.2.1
    have a0 := HP.out.a0
    have a1 := HP.out.a1
    by_cases hla : j < na
    · have hja : (j : Int) < (na : Int) := by omega
      obtain ⟨ga, oa, rfl, hgla, hca⟩ := HA.out.at_.resolve_left (fun e => by have := HNA.out; rw [e] at this; simp at this; omega)
      obtain ⟨xa, hina⟩ := hca j (by rw [HNA.out]; exact hla)
      obtain ⟨ooa, hooa⟩ : ∃ z, xs.getD j noBop = z := ⟨_, rfl⟩
      rw [hooa] at xa hina
      have HCa : Hid (∀ v, Below w.heap.size w v → v.cell? ⟨ga, oa + j * 4, none⟩ = some (.int .i64 ooa.kind) ∧ v.cell? ⟨ga, oa + j * 4 + 1, none⟩ = some (.int .i64 ooa.at_) ∧ v.cell? ⟨ga, oa + j * 4 + 2, none⟩ = some (.int .i64 ooa.n) ∧ v.cell? ⟨ga, oa + j * 4 + 3, none⟩ = some (.string ooa.data)) := fun v hb => op_cells hgla hb xa
      have HIa : Hid (ooa.at_ ≤ 9223372036854775807) := (bounds_i64 hina.at_).2
      obtain ⟨xa0, xa1, xa2, xa3⟩ := HCa.out wr HP.out.bel
      clear hca xa hina hooa
      by_cases hlb : j < nb
      · have hjb : (j : Int) < (nb : Int) := by omega
        obtain ⟨gb, ob, rfl, hglb, hcb⟩ := HB.out.at_.resolve_left (fun e => by have := HNB.out; rw [e] at this; simp at this; omega)
        obtain ⟨xb, hinb⟩ := hcb j (by rw [HNB.out]; exact hlb)
        obtain ⟨oob, hoob⟩ : ∃ z, ys.getD j noBop = z := ⟨_, rfl⟩
        rw [hoob] at xb hinb
        have HCb : Hid (∀ v, Below w.heap.size w v → v.cell? ⟨gb, ob + j * 4, none⟩ = some (.int .i64 oob.kind) ∧ v.cell? ⟨gb, ob + j * 4 + 1, none⟩ = some (.int .i64 oob.at_) ∧ v.cell? ⟨gb, ob + j * 4 + 2, none⟩ = some (.int .i64 oob.n) ∧ v.cell? ⟨gb, ob + j * 4 + 3, none⟩ = some (.string oob.data)) := fun v hb => op_cells hglb hb xb
        have HIb : Hid (oob.at_ ≤ 9223372036854775807) := (bounds_i64 hinb.at_).2
        obtain ⟨xb0, xb1, xb2, xb3⟩ := HCb.out wr HP.out.bel
        clear hcb xb hinb hoob
        go_wp2
        go_region_held3 (fun v' => v'.cell? ⟨xb, 0, none⟩ = some (.pointer (some ⟨b1, 0, none⟩)) ∧ v'.cell? ⟨xb, 1, none⟩ = some (.pointer (some ⟨b2, 0, none⟩)) ∧ v'.cell? ⟨ga, oa + j * 4, none⟩ = some (.int .i64 ooa.kind) ∧ v'.cell? ⟨ga, oa + j * 4 + 1, none⟩ = some (.int .i64 ooa.at_) ∧ v'.cell? ⟨ga, oa + j * 4 + 2, none⟩ = some (.int .i64 ooa.n) ∧ v'.cell? ⟨ga, oa + j * 4 + 3, none⟩ = some (.string ooa.data) ∧ v'.cell? ⟨gb, ob + j * 4, none⟩ = some (.int .i64 oob.kind) ∧ v'.cell? ⟨gb, ob + j * 4 + 1, none⟩ = some (.int .i64 oob.at_) ∧ v'.cell? ⟨gb, ob + j * 4 + 2, none⟩ = some (.int .i64 oob.n) ∧ v'.cell? ⟨gb, ob + j * 4 + 3, none⟩ = some (.string oob.data)) (first | go_keep | fail "KEEP") (first
          | (go_at_call 10; refine Calls.mono (HP5.out.call2 oob (by omega) HIb.out _ (by first | exact Below.refl _ _ | exact (Below.refl _ _).drew)) ?_; rintro e w6 ⟨rfl, V5, S5, M5, cc2, tt2, hp5⟩; have HP6 : Hid _ := hp5; clear hp5; have a0 := HP6.out.a0; have a1 := HP6.out.a1; obtain ⟨xa0, xa1, xa2, xa3⟩ := HCa.out _ HP6.out.bel; obtain ⟨xb0, xb1, xb2, xb3⟩ := HCb.out _ HP6.out.bel)
          | (go_at_call 10; refine Calls.mono (HP.out.call1 ooa (by omega) HIa.out _ (by first | exact Below.refl _ _ | exact (Below.refl _ _).drew)) ?_; rintro e w5 ⟨rfl, V5, S5, M5, cc1, tt1, hp5⟩; have HP5 : Hid _ := hp5; clear hp5; have a0 := HP5.out.a0; have a1 := HP5.out.a1; obtain ⟨xa0, xa1, xa2, xa3⟩ := HCa.out _ HP5.out.bel; obtain ⟨xb0, xb1, xb2, xb3⟩ := HCb.out _ HP5.out.bel))
        all_goals
          have HPR : Hid (Ap w _ xb b1 b2 V5 S5 L M5 (5648 * (j + 1)) _ _ _ _) := HP6.out.mono (by omega)
          clear a0 a1 xa0 xa1 xa2 xa3 xb0 xb1 xb2 xb3
          go_wp2
          go_roundw
          case rel => exact ⟨j + 1, V5, S5, M5, _, _, _, _, by have := HMX.out; omega, by go_num, HPR⟩
          case measure => simp [intOf]; have := HMX.out; omega
      · have hjb : ¬ (j : Int) < (nb : Int) := by omega
        go_wp2
        refine wp_region_held_drew (S := fun v' => v'.cell? ⟨xb, 0, none⟩ = some (.pointer (some ⟨b1, 0, none⟩)) ∧ v'.cell? ⟨ga, oa + j * 4, none⟩ = some (.int .i64 ooa.kind) ∧ v'.cell? ⟨ga, oa + j * 4 + 1, none⟩ = some (.int .i64 ooa.at_) ∧ v'.cell? ⟨ga, oa + j * 4 + 2, none⟩ = some (.int .i64 ooa.n) ∧ v'.cell? ⟨ga, oa + j * 4 + 3, none⟩ = some (.string ooa.data)) (by kernel_rfl) ?_ (fun hHeld => ?_)
        · first | go_keep | exact ⟨a0, xa0, xa1, xa2, xa3⟩
        refine wpAnyH_take (i := 0) (oi := ?oi_0) (v := ?v_0) ?hi_0 ?hs_0 ?hf_0 ?hr_0 ?hQ_0 ?hy_0 ?hS_0 ?rest_0
        case hi_0 => simp only [List.getElem?_toArray, List.getElem?_cons_succ, List.getElem?_cons_zero] <;> rfl
        case hs_0 => kernel_rfl
        case hf_0 => kernel_rfl
        case hr_0 => kernel_rfl
        case hQ_0 => exact fun _ _ _ h => h
        case hS_0 => assumption
        case hy_0 =>
          refine Or.inl ⟨by rfl, ?_⟩
          intro w hSw
          (try dsimp only at hSw)
          go_simp
          try with_reducible rfl
        try simp only [Act.put, List.setIfInBounds_toArray, List.set_cons_zero, List.set_cons_succ]
        refine wpAnyH_take (i := 1) (oi := ?oi_1) (v := ?v_1) ?hi_1 ?hs_1 ?hf_1 ?hr_1 ?hQ_1 ?hy_1 ?hS_1 ?rest_1
        case hi_1 => simp only [List.getElem?_toArray, List.getElem?_cons_succ, List.getElem?_cons_zero] <;> rfl
        case hs_1 => kernel_rfl
        case hf_1 => kernel_rfl
        case hr_1 => kernel_rfl
        case hQ_1 => exact fun _ _ _ h => h
        case hS_1 => assumption
        case hy_1 =>
          refine Or.inl ⟨by rfl, ?_⟩
          intro w hSw
          (try dsimp only at hSw)
          go_simp
          try with_reducible rfl
        try simp only [Act.put, List.setIfInBounds_toArray, List.set_cons_zero, List.set_cons_succ]
        refine wpAnyH_take (i := 2) (oi := ?oi_2) (v := ?v_2) ?hi_2 ?hs_2 ?hf_2 ?hr_2 ?hQ_2 ?hy_2 ?hS_2 ?rest_2
        case hi_2 => simp only [List.getElem?_toArray, List.getElem?_cons_succ, List.getElem?_cons_zero] <;> rfl
        case hs_2 => kernel_rfl
        case hf_2 => kernel_rfl
        case hr_2 => kernel_rfl
        case hQ_2 => exact fun _ _ _ h => h
        case hS_2 => assumption
        case hy_2 =>
          refine Or.inl ⟨by rfl, ?_⟩
          intro w hSw
          (try dsimp only at hSw)
          go_simp
          try with_reducible rfl
        try simp only [Act.put, List.setIfInBounds_toArray, List.set_cons_zero, List.set_cons_succ]
        refine wpAnyH_take (i := 3) (oi := ?oi_3) (v := ?v_3) ?hi_3 ?hs_3 ?hf_3 ?hr_3 ?hQ_3 ?hy_3 ?hS_3 ?rest_3
        case hi_3 => simp only [List.getElem?_toArray, List.getElem?_cons_succ, List.getElem?_cons_zero] <;> rfl
        case hs_3 => kernel_rfl
        case hf_3 => kernel_rfl
        case hr_3 => kernel_rfl
        case hQ_3 => exact fun _ _ _ h => h
        case hS_3 => assumption
        case hy_3 =>
          refine Or.inl ⟨by rfl, ?_⟩
          intro w hSw
          (try dsimp only at hSw)
          go_simp
          try with_reducible rfl
        try simp only [Act.put, List.setIfInBounds_toArray, List.set_cons_zero, List.set_cons_succ]
        refine wpAnyH_take (i := 4) (oi := ?oi_4) (v := ?v_4) ?hi_4 ?hs_4 ?hf_4 ?hr_4 ?hQ_4 ?hy_4 ?hS_4 ?rest_4
        case hi_4 => simp only [List.getElem?_toArray, List.getElem?_cons_succ, List.getElem?_cons_zero] <;> rfl
        case hs_4 => kernel_rfl
        case hf_4 => kernel_rfl
        case hr_4 => kernel_rfl
        case hQ_4 => exact fun _ _ _ h => h
        case hS_4 => assumption
        case hy_4 =>
          refine Or.inl ⟨by rfl, ?_⟩
          intro w hSw
          (try dsimp only at hSw)
          go_simp
          try with_reducible rfl
        try simp only [Act.put, List.setIfInBounds_toArray, List.set_cons_zero, List.set_cons_succ]
        refine wpAnyH_take (i := 5) (oi := ?oi_5) (v := ?v_5) ?hi_5 ?hs_5 ?hf_5 ?hr_5 ?hQ_5 ?hy_5 ?hS_5 ?rest_5
        case hi_5 => simp only [List.getElem?_toArray, List.getElem?_cons_succ, List.getElem?_cons_zero] <;> rfl
        case hs_5 => kernel_rfl
        case hf_5 => kernel_rfl
        case hr_5 => kernel_rfl
        case hQ_5 => exact fun _ _ _ h => h
        case hS_5 => assumption
        case hy_5 =>
          refine Or.inl ⟨by rfl, ?_⟩
          intro w hSw
          (try dsimp only at hSw)
          go_simp
          try with_reducible rfl
        try simp only [Act.put, List.setIfInBounds_toArray, List.set_cons_zero, List.set_cons_succ]
        refine wpAnyH_take (i := 6) (oi := ?oi_6) (v := ?v_6) ?hi_6 ?hs_6 ?hf_6 ?hr_6 ?hQ_6 ?hy_6 ?hS_6 ?rest_6
        case hi_6 => simp only [List.getElem?_toArray, List.getElem?_cons_succ, List.getElem?_cons_zero] <;> rfl
        case hs_6 => kernel_rfl
        case hf_6 => kernel_rfl
        case hr_6 => kernel_rfl
        case hQ_6 => exact fun _ _ _ h => h
        case hS_6 => assumption
        case hy_6 =>
          refine Or.inl ⟨by rfl, ?_⟩
          intro w hSw
          (try dsimp only at hSw)
          go_simp
          try with_reducible rfl
        try simp only [Act.put, List.setIfInBounds_toArray, List.set_cons_zero, List.set_cons_succ]
        refine wpAnyH_take (i := 7) (oi := ?oi_7) (v := ?v_7) ?hi_7 ?hs_7 ?hf_7 ?hr_7 ?hQ_7 ?hy_7 ?hS_7 ?rest_7
        case hi_7 => simp only [List.getElem?_toArray, List.getElem?_cons_succ, List.getElem?_cons_zero] <;> rfl
        case hs_7 => kernel_rfl
        case hf_7 => kernel_rfl
        case hr_7 => kernel_rfl
        case hQ_7 => exact fun _ _ _ h => h
        case hS_7 => assumption
        case hy_7 =>
          refine Or.inl ⟨by rfl, ?_⟩
          intro w hSw
          (try dsimp only at hSw)
          go_simp
          try with_reducible rfl
        try simp only [Act.put, List.setIfInBounds_toArray, List.set_cons_zero, List.set_cons_succ]
        refine wpAnyH_take (i := 8) (oi := ?oi_8) (v := ?v_8) ?hi_8 ?hs_8 ?hf_8 ?hr_8 ?hQ_8 ?hy_8 ?hS_8 ?rest_8
        case hi_8 => simp only [List.getElem?_toArray, List.getElem?_cons_succ, List.getElem?_cons_zero] <;> rfl
        case hs_8 => kernel_rfl
        case hf_8 => kernel_rfl
        case hr_8 => kernel_rfl
        case hQ_8 => exact fun _ _ _ h => h
        case hS_8 => assumption
        case hy_8 =>
          refine Or.inl ⟨by rfl, ?_⟩
          intro w hSw
          (try dsimp only at hSw)
          go_simp
          try with_reducible rfl
        try simp only [Act.put, List.setIfInBounds_toArray, List.set_cons_zero, List.set_cons_succ]
        refine wpAnyH_take (i := 9) (oi := ?oi_9) (v := ?v_9) ?hi_9 ?hs_9 ?hf_9 ?hr_9 ?hQ_9 ?hy_9 ?hS_9 ?rest_9
        case hi_9 => simp only [List.getElem?_toArray, List.getElem?_cons_succ, List.getElem?_cons_zero] <;> rfl
        case hs_9 => kernel_rfl
        case hf_9 => kernel_rfl
        case hr_9 => kernel_rfl
        case hQ_9 => exact fun _ _ _ h => h
        case hS_9 => assumption
        case hy_9 =>
          refine Or.inl ⟨by rfl, ?_⟩
          intro w hSw
          (try dsimp only at hSw)
          go_simp
          try with_reducible rfl
        try simp only [Act.put, List.setIfInBounds_toArray, List.set_cons_zero, List.set_cons_succ]
        refine wpAnyH_take (i := 10) (oi := ?oi_10) (v := ?v_10) ?hi_10 ?hs_10 ?hf_10 ?hr_10 ?hQ_10 ?hy_10 ?hS_10 ?rest_10
        case hi_10 => simp only [List.getElem?_toArray, List.getElem?_cons_succ, List.getElem?_cons_zero] <;> rfl
        case hs_10 => kernel_rfl
        case hf_10 => kernel_rfl
        case hr_10 => kernel_rfl
        case hQ_10 => exact fun _ _ _ h => h
        case hS_10 => assumption
        case hy_10 =>
          refine Or.inl ⟨by rfl, ?_⟩
          intro w hSw
          (try dsimp only at hSw)
          go_simp
          try with_reducible rfl
        try simp only [Act.put, List.setIfInBounds_toArray, List.set_cons_zero, List.set_cons_succ]
        refine wpAnyH_ready (rs := [11]) (by kernel_rfl) (by simp) ?_
        refine AllReadyH.cons rfl (fun KK hKK => ?_) AllReadyH.nil
        go_simp
        go_wp2_with (first | (go_at_call 10; refine Calls.mono (HP.out.call1 ooa (by omega) HIa.out _ (by first | exact Below.refl _ _ | exact (Below.refl _ _).drew)) ?_; rintro e w5 ⟨rfl, V5, S5, M5, cc1, tt1, hp5⟩; have HP5 : Hid _ := hp5; clear hp5; have a0 := HP5.out.a0; obtain ⟨xa0, xa1, xa2, xa3⟩ := HCa.out _ HP5.out.bel))
        refine hKK.out _ _ ?_ (fun hHeld => ?_)
        · first | go_keep | exact ⟨a0, xa0, xa1, xa2, xa3⟩
        clear hKK KK
        refine wpAnyH_take (i := 12) (oi := ?oi_12) (v := ?v_12) ?hi_12 ?hs_12 ?hf_12 ?hr_12 ?hQ_12 ?hy_12 ?hS_12 ?rest_12
        case hi_12 => simp only [List.getElem?_toArray, List.getElem?_cons_succ, List.getElem?_cons_zero] <;> rfl
        case hs_12 => kernel_rfl
        case hf_12 => kernel_rfl
        case hr_12 => kernel_rfl
        case hQ_12 => exact fun _ _ _ h => h
        case hS_12 => assumption
        case hy_12 =>
          refine Or.inl ⟨by rfl, ?_⟩
          intro w hSw
          (try dsimp only at hSw)
          go_simp
          try with_reducible rfl
        try simp only [Act.put, List.setIfInBounds_toArray, List.set_cons_zero, List.set_cons_succ]
        refine wpAnyH_take (i := 13) (oi := ?oi_13) (v := ?v_13) ?hi_13 ?hs_13 ?hf_13 ?hr_13 ?hQ_13 ?hy_13 ?hS_13 ?rest_13
        case hi_13 => simp only [List.getElem?_toArray, List.getElem?_cons_succ, List.getElem?_cons_zero] <;> rfl
        case hs_13 => kernel_rfl
        case hf_13 => kernel_rfl
        case hr_13 => kernel_rfl
        case hQ_13 => exact fun _ _ _ h => h
        case hS_13 => assumption
        case hy_13 =>
          refine Or.inl ⟨by rfl, ?_⟩
          intro w hSw
          (try dsimp only at hSw)
          go_simp
          try with_reducible rfl
        try simp only [Act.put, List.setIfInBounds_toArray, List.set_cons_zero, List.set_cons_succ]
        refine wpAnyH_take (i := 14) (oi := ?oi_14) (v := ?v_14) ?hi_14 ?hs_14 ?hf_14 ?hr_14 ?hQ_14 ?hy_14 ?hS_14 ?rest_14
        case hi_14 => simp only [List.getElem?_toArray, List.getElem?_cons_succ, List.getElem?_cons_zero] <;> rfl
        case hs_14 => kernel_rfl
        case hf_14 => kernel_rfl
        case hr_14 => kernel_rfl
        case hQ_14 => exact fun _ _ _ h => h
        case hS_14 => assumption
        case hy_14 =>
          refine Or.inl ⟨by rfl, ?_⟩
          intro w hSw
          (try dsimp only at hSw)
          go_simp
          try with_reducible rfl
        try simp only [Act.put, List.setIfInBounds_toArray, List.set_cons_zero, List.set_cons_succ]
        refine wpAnyH_take (i := 15) (oi := ?oi_15) (v := ?v_15) ?hi_15 ?hs_15 ?hf_15 ?hr_15 ?hQ_15 ?hy_15 ?hS_15 ?rest_15
        case hi_15 => simp only [List.getElem?_toArray, List.getElem?_cons_succ, List.getElem?_cons_zero] <;> rfl
        case hs_15 => kernel_rfl
        case hf_15 => kernel_rfl
        case hr_15 => kernel_rfl
        case hQ_15 => exact fun _ _ _ h => h
        case hS_15 => assumption
        case hy_15 =>
          refine Or.inl ⟨by rfl, ?_⟩
          intro w hSw
          (try dsimp only at hSw)
          go_simp
          try with_reducible rfl
        try simp only [Act.put, List.setIfInBounds_toArray, List.set_cons_zero, List.set_cons_succ]
        refine wpAnyH_take (i := 16) (oi := ?oi_16) (v := ?v_16) ?hi_16 ?hs_16 ?hf_16 ?hr_16 ?hQ_16 ?hy_16 ?hS_16 ?rest_16
        case hi_16 => simp only [List.getElem?_toArray, List.getElem?_cons_succ, List.getElem?_cons_zero] <;> rfl
        case hs_16 => kernel_rfl
        case hf_16 => kernel_rfl
        case hr_16 => kernel_rfl
        case hQ_16 => exact fun _ _ _ h => h
        case hS_16 => assumption
        case hy_16 =>
          refine Or.inl ⟨by rfl, ?_⟩
          intro w hSw
          (try dsimp only at hSw)
          go_simp
          try with_reducible rfl
        try simp only [Act.put, List.setIfInBounds_toArray, List.set_cons_zero, List.set_cons_succ]
        refine wpAnyH_take (i := 17) (oi := ?oi_17) (v := ?v_17) ?hi_17 ?hs_17 ?hf_17 ?hr_17 ?hQ_17 ?hy_17 ?hS_17 ?rest_17
        case hi_17 => simp only [List.getElem?_toArray, List.getElem?_cons_succ, List.getElem?_cons_zero] <;> rfl
        case hs_17 => kernel_rfl
        case hf_17 => kernel_rfl
        case hr_17 => kernel_rfl
        case hQ_17 => exact fun _ _ _ h => h
        case hS_17 => assumption
        case hy_17 =>
          refine Or.inl ⟨by rfl, ?_⟩
          intro w hSw
          (try dsimp only at hSw)
          go_simp
          try with_reducible rfl
        try simp only [Act.put, List.setIfInBounds_toArray, List.set_cons_zero, List.set_cons_succ]
        refine wpAnyH_take (i := 18) (oi := ?oi_18) (v := ?v_18) ?hi_18 ?hs_18 ?hf_18 ?hr_18 ?hQ_18 ?hy_18 ?hS_18 ?rest_18
        case hi_18 => simp only [List.getElem?_toArray, List.getElem?_cons_succ, List.getElem?_cons_zero] <;> rfl
        case hs_18 => kernel_rfl
        case hf_18 => kernel_rfl
        case hr_18 => kernel_rfl
        case hQ_18 => exact fun _ _ _ h => h
        case hS_18 => assumption
        case hy_18 =>
          refine Or.inl ⟨by rfl, ?_⟩
          intro w hSw
          (try dsimp only at hSw)
          go_simp
          try with_reducible rfl
        try simp only [Act.put, List.setIfInBounds_toArray, List.set_cons_zero, List.set_cons_succ]
        refine wpAnyH_take (i := 19) (oi := ?oi_19) (v := ?v_19) ?hi_19 ?hs_19 ?hf_19 ?hr_19 ?hQ_19 ?hy_19 ?hS_19 ?rest_19
        case hi_19 => simp only [List.getElem?_toArray, List.getElem?_cons_succ, List.getElem?_cons_zero] <;> rfl
        case hs_19 => kernel_rfl
        case hf_19 => kernel_rfl
        case hr_19 => kernel_rfl
        case hQ_19 => exact fun _ _ _ h => h
        case hS_19 => assumption
        case hy_19 =>
          refine Or.inl ⟨by rfl, ?_⟩
          intro w hSw
          (try dsimp only at hSw)
          go_simp
          try with_reducible rfl
        try simp only [Act.put, List.setIfInBounds_toArray, List.set_cons_zero, List.set_cons_succ]
        refine wpAnyH_take (i := 20) (oi := ?oi_20) (v := undef) ?hi_20 ?hs_20 ?hf_20 ?hr_20 ?hQ_20 ?hy_20 ?hS_20 ?rest_20
        case hi_20 => simp only [List.getElem?_toArray, List.getElem?_cons_succ, List.getElem?_cons_zero] <;> rfl
        case hs_20 => kernel_rfl
        case hf_20 => kernel_rfl
        case hr_20 => kernel_rfl
        case hQ_20 => exact fun _ _ _ h => h
        case hS_20 => assumption
        case hy_20 => exact Or.inr ⟨by rfl, rfl⟩
        try simp only [Act.put, List.setIfInBounds_toArray, List.set_cons_zero, List.set_cons_succ]
        refine wpAnyH_take (i := 21) (oi := ?oi_21) (v := undef) ?hi_21 ?hs_21 ?hf_21 ?hr_21 ?hQ_21 ?hy_21 ?hS_21 ?rest_21
        case hi_21 => simp only [List.getElem?_toArray, List.getElem?_cons_succ, List.getElem?_cons_zero] <;> rfl
        case hs_21 => kernel_rfl
        case hf_21 => kernel_rfl
        case hr_21 => kernel_rfl
        case hQ_21 => exact fun _ _ _ h => h
        case hS_21 => assumption
        case hy_21 => exact Or.inr ⟨by rfl, rfl⟩
        try simp only [Act.put, List.setIfInBounds_toArray, List.set_cons_zero, List.set_cons_succ]
        refine wpAnyH_take (i := 22) (oi := ?oi_22) (v := undef) ?hi_22 ?hs_22 ?hf_22 ?hr_22 ?hQ_22 ?hy_22 ?hS_22 ?rest_22
        case hi_22 => simp only [List.getElem?_toArray, List.getElem?_cons_succ, List.getElem?_cons_zero] <;> rfl
        case hs_22 => kernel_rfl
        case hf_22 => kernel_rfl
        case hr_22 => kernel_rfl
        case hQ_22 => exact fun _ _ _ h => h
        case hS_22 => assumption
        case hy_22 => exact Or.inr ⟨by rfl, rfl⟩
        try simp only [Act.put, List.setIfInBounds_toArray, List.set_cons_zero, List.set_cons_succ]
        refine wpAnyH_take (i := 23) (oi := ?oi_23) (v := undef) ?hi_23 ?hs_23 ?hf_23 ?hr_23 ?hQ_23 ?hy_23 ?hS_23 ?rest_23
        case hi_23 => simp only [List.getElem?_toArray, List.getElem?_cons_succ, List.getElem?_cons_zero] <;> rfl
        case hs_23 => kernel_rfl
        case hf_23 => kernel_rfl
        case hr_23 => kernel_rfl
        case hQ_23 => exact fun _ _ _ h => h
        case hS_23 => assumption
        case hy_23 => exact Or.inr ⟨by rfl, rfl⟩
        try simp only [Act.put, List.setIfInBounds_toArray, List.set_cons_zero, List.set_cons_succ]
        refine wpAnyH_take (i := 24) (oi := ?oi_24) (v := undef) ?hi_24 ?hs_24 ?hf_24 ?hr_24 ?hQ_24 ?hy_24 ?hS_24 ?rest_24
        case hi_24 => simp only [List.getElem?_toArray, List.getElem?_cons_succ, List.getElem?_cons_zero] <;> rfl
        case hs_24 => kernel_rfl
        case hf_24 => kernel_rfl
        case hr_24 => kernel_rfl
        case hQ_24 => exact fun _ _ _ h => h
        case hS_24 => assumption
        case hy_24 => exact Or.inr ⟨by rfl, rfl⟩
        try simp only [Act.put, List.setIfInBounds_toArray, List.set_cons_zero, List.set_cons_succ]
        refine wpAnyH_take (i := 25) (oi := ?oi_25) (v := undef) ?hi_25 ?hs_25 ?hf_25 ?hr_25 ?hQ_25 ?hy_25 ?hS_25 ?rest_25
        case hi_25 => simp only [List.getElem?_toArray, List.getElem?_cons_succ, List.getElem?_cons_zero] <;> rfl
        case hs_25 => kernel_rfl
        case hf_25 => kernel_rfl
        case hr_25 => kernel_rfl
        case hQ_25 => exact fun _ _ _ h => h
        case hS_25 => assumption
        case hy_25 => exact Or.inr ⟨by rfl, rfl⟩
        try simp only [Act.put, List.setIfInBounds_toArray, List.set_cons_zero, List.set_cons_succ]
        refine wpAnyH_take (i := 26) (oi := ?oi_26) (v := undef) ?hi_26 ?hs_26 ?hf_26 ?hr_26 ?hQ_26 ?hy_26 ?hS_26 ?rest_26
        case hi_26 => simp only [List.getElem?_toArray, List.getElem?_cons_succ, List.getElem?_cons_zero] <;> rfl
        case hs_26 => kernel_rfl
        case hf_26 => kernel_rfl
        case hr_26 => kernel_rfl
        case hQ_26 => exact fun _ _ _ h => h
        case hS_26 => assumption
        case hy_26 => exact Or.inr ⟨by rfl, rfl⟩
        try simp only [Act.put, List.setIfInBounds_toArray, List.set_cons_zero, List.set_cons_succ]
        refine wpAnyH_take (i := 27) (oi := ?oi_27) (v := undef) ?hi_27 ?hs_27 ?hf_27 ?hr_27 ?hQ_27 ?hy_27 ?hS_27 ?rest_27
        case hi_27 => simp only [List.getElem?_toArray, List.getElem?_cons_succ, List.getElem?_cons_zero] <;> rfl
        case hs_27 => kernel_rfl
        case hf_27 => kernel_rfl
        case hr_27 => kernel_rfl
        case hQ_27 => exact fun _ _ _ h => h
        case hS_27 => assumption
        case hy_27 => exact Or.inr ⟨by rfl, rfl⟩
        try simp only [Act.put, List.setIfInBounds_toArray, List.set_cons_zero, List.set_cons_succ]
        refine wpAnyH_take (i := 28) (oi := ?oi_28) (v := ?v_28) ?hi_28 ?hs_28 ?hf_28 ?hr_28 ?hQ_28 ?hy_28 ?hS_28 ?rest_28
        case hi_28 => simp only [List.getElem?_toArray, List.getElem?_cons_succ, List.getElem?_cons_zero] <;> rfl
        case hs_28 => kernel_rfl
        case hf_28 => kernel_rfl
        case hr_28 => kernel_rfl
        case hQ_28 => exact fun _ _ _ h => h
        case hS_28 => assumption
        case hy_28 =>
          refine Or.inl ⟨by rfl, ?_⟩
          intro w hSw
          (try dsimp only at hSw)
          go_simp
          try with_reducible rfl
        try simp only [Act.put, List.setIfInBounds_toArray, List.set_cons_zero, List.set_cons_succ]
        refine wpAnyH_take (i := 29) (oi := ?oi_29) (v := ?v_29) ?hi_29 ?hs_29 ?hf_29 ?hr_29 ?hQ_29 ?hy_29 ?hS_29 ?rest_29
        case hi_29 => simp only [List.getElem?_toArray, List.getElem?_cons_succ, List.getElem?_cons_zero] <;> rfl
        case hs_29 => kernel_rfl
        case hf_29 => kernel_rfl
        case hr_29 => kernel_rfl
        case hQ_29 => exact fun _ _ _ h => h
        case hS_29 => assumption
        case hy_29 =>
          refine Or.inl ⟨by rfl, ?_⟩
          intro w hSw
          (try dsimp only at hSw)
          go_simp
          try with_reducible rfl
        try simp only [Act.put, List.setIfInBounds_toArray, List.set_cons_zero, List.set_cons_succ]
        refine wpAnyH_done (by kernel_rfl) ?_ _
        all_goals
          have HPR : Hid (Ap w _ xb b1 b2 V5 S5 L M5 (5648 * (j + 1)) _ _ _ _) := HP5.out.mono (by omega)
          clear a0 a1 xa0 xa1 xa2 xa3
          go_wp2
          go_roundw
          case rel => exact ⟨j + 1, V5, S5, M5, _, _, _, _, by have := HMX.out; omega, by go_num, HPR⟩
          case measure => simp [intOf]; have := HMX.out; omega
    · have hja : ¬ (j : Int) < (na : Int) := by omega
      by_cases hlb : j < nb
      · have hjb : (j : Int) < (nb : Int) := by omega
        obtain ⟨gb, ob, rfl, hglb, hcb⟩ := HB.out.at_.resolve_left (fun e => by have := HNB.out; rw [e] at this; simp at this; omega)
        obtain ⟨xb, hinb⟩ := hcb j (by rw [HNB.out]; exact hlb)
        obtain ⟨oob, hoob⟩ : ∃ z, ys.getD j noBop = z := ⟨_, rfl⟩
        rw [hoob] at xb hinb
        have HCb : Hid (∀ v, Below w.heap.size w v → v.cell? ⟨gb, ob + j * 4, none⟩ = some (.int .i64 oob.kind) ∧ v.cell? ⟨gb, ob + j * 4 + 1, none⟩ = some (.int .i64 oob.at_) ∧ v.cell? ⟨gb, ob + j * 4 + 2, none⟩ = some (.int .i64 oob.n) ∧ v.cell? ⟨gb, ob + j * 4 + 3, none⟩ = some (.string oob.data)) := fun v hb => op_cells hglb hb xb
        have HIb : Hid (oob.at_ ≤ 9223372036854775807) := (bounds_i64 hinb.at_).2
        obtain ⟨xb0, xb1, xb2, xb3⟩ := HCb.out wr HP.out.bel
        clear hcb xb hinb hoob
        go_wp2
        refine wp_region_held_drew (S := fun v' => v'.cell? ⟨xb, 1, none⟩ = some (.pointer (some ⟨b2, 0, none⟩)) ∧ v'.cell? ⟨gb, ob + j * 4, none⟩ = some (.int .i64 oob.kind) ∧ v'.cell? ⟨gb, ob + j * 4 + 1, none⟩ = some (.int .i64 oob.at_) ∧ v'.cell? ⟨gb, ob + j * 4 + 2, none⟩ = some (.int .i64 oob.n) ∧ v'.cell? ⟨gb, ob + j * 4 + 3, none⟩ = some (.string oob.data)) (by kernel_rfl) ?_ (fun hHeld => ?_)
        · first | go_keep | exact ⟨a1, xb0, xb1, xb2, xb3⟩
        refine wpAnyH_take (i := 0) (oi := ?oi_b0) (v := ?v_b0) ?hi_b0 ?hs_b0 ?hf_b0 ?hr_b0 ?hQ_b0 ?hy_b0 ?hS_b0 ?rest_b0
        case hi_b0 => simp only [List.getElem?_toArray, List.getElem?_cons_succ, List.getElem?_cons_zero] <;> rfl
        case hs_b0 => kernel_rfl
        case hf_b0 => kernel_rfl
        case hr_b0 => kernel_rfl
        case hQ_b0 => exact fun _ _ _ h => h
        case hS_b0 => assumption
        case hy_b0 =>
          refine Or.inl ⟨by rfl, ?_⟩
          intro w hSw
          (try dsimp only at hSw)
          go_simp
          try with_reducible rfl
        try simp only [Act.put, List.setIfInBounds_toArray, List.set_cons_zero, List.set_cons_succ]
        refine wpAnyH_take (i := 1) (oi := ?oi_b1) (v := ?v_b1) ?hi_b1 ?hs_b1 ?hf_b1 ?hr_b1 ?hQ_b1 ?hy_b1 ?hS_b1 ?rest_b1
        case hi_b1 => simp only [List.getElem?_toArray, List.getElem?_cons_succ, List.getElem?_cons_zero] <;> rfl
        case hs_b1 => kernel_rfl
        case hf_b1 => kernel_rfl
        case hr_b1 => kernel_rfl
        case hQ_b1 => exact fun _ _ _ h => h
        case hS_b1 => assumption
        case hy_b1 =>
          refine Or.inl ⟨by rfl, ?_⟩
          intro w hSw
          (try dsimp only at hSw)
          go_simp
          try with_reducible rfl
        try simp only [Act.put, List.setIfInBounds_toArray, List.set_cons_zero, List.set_cons_succ]
        refine wpAnyH_take (i := 2) (oi := ?oi_b2) (v := ?v_b2) ?hi_b2 ?hs_b2 ?hf_b2 ?hr_b2 ?hQ_b2 ?hy_b2 ?hS_b2 ?rest_b2
        case hi_b2 => simp only [List.getElem?_toArray, List.getElem?_cons_succ, List.getElem?_cons_zero] <;> rfl
        case hs_b2 => kernel_rfl
        case hf_b2 => kernel_rfl
        case hr_b2 => kernel_rfl
        case hQ_b2 => exact fun _ _ _ h => h
        case hS_b2 => assumption
        case hy_b2 =>
          refine Or.inl ⟨by rfl, ?_⟩
          intro w hSw
          (try dsimp only at hSw)
          go_simp
          try with_reducible rfl
        try simp only [Act.put, List.setIfInBounds_toArray, List.set_cons_zero, List.set_cons_succ]
        refine wpAnyH_take (i := 3) (oi := ?oi_b3) (v := ?v_b3) ?hi_b3 ?hs_b3 ?hf_b3 ?hr_b3 ?hQ_b3 ?hy_b3 ?hS_b3 ?rest_b3
        case hi_b3 => simp only [List.getElem?_toArray, List.getElem?_cons_succ, List.getElem?_cons_zero] <;> rfl
        case hs_b3 => kernel_rfl
        case hf_b3 => kernel_rfl
        case hr_b3 => kernel_rfl
        case hQ_b3 => exact fun _ _ _ h => h
        case hS_b3 => assumption
        case hy_b3 =>
          refine Or.inl ⟨by rfl, ?_⟩
          intro w hSw
          (try dsimp only at hSw)
          go_simp
          try with_reducible rfl
        try simp only [Act.put, List.setIfInBounds_toArray, List.set_cons_zero, List.set_cons_succ]
        refine wpAnyH_take (i := 4) (oi := ?oi_b4) (v := ?v_b4) ?hi_b4 ?hs_b4 ?hf_b4 ?hr_b4 ?hQ_b4 ?hy_b4 ?hS_b4 ?rest_b4
        case hi_b4 => simp only [List.getElem?_toArray, List.getElem?_cons_succ, List.getElem?_cons_zero] <;> rfl
        case hs_b4 => kernel_rfl
        case hf_b4 => kernel_rfl
        case hr_b4 => kernel_rfl
        case hQ_b4 => exact fun _ _ _ h => h
        case hS_b4 => assumption
        case hy_b4 =>
          refine Or.inl ⟨by rfl, ?_⟩
          intro w hSw
          (try dsimp only at hSw)
          go_simp
          try with_reducible rfl
        try simp only [Act.put, List.setIfInBounds_toArray, List.set_cons_zero, List.set_cons_succ]
        refine wpAnyH_take (i := 5) (oi := ?oi_b5) (v := undef) ?hi_b5 ?hs_b5 ?hf_b5 ?hr_b5 ?hQ_b5 ?hy_b5 ?hS_b5 ?rest_b5
        case hi_b5 => simp only [List.getElem?_toArray, List.getElem?_cons_succ, List.getElem?_cons_zero] <;> rfl
        case hs_b5 => kernel_rfl
        case hf_b5 => kernel_rfl
        case hr_b5 => kernel_rfl
        case hQ_b5 => exact fun _ _ _ h => h
        case hS_b5 => assumption
        case hy_b5 => exact Or.inr ⟨by rfl, rfl⟩
        try simp only [Act.put, List.setIfInBounds_toArray, List.set_cons_zero, List.set_cons_succ]
        refine wpAnyH_take (i := 6) (oi := ?oi_b6) (v := undef) ?hi_b6 ?hs_b6 ?hf_b6 ?hr_b6 ?hQ_b6 ?hy_b6 ?hS_b6 ?rest_b6
        case hi_b6 => simp only [List.getElem?_toArray, List.getElem?_cons_succ, List.getElem?_cons_zero] <;> rfl
        case hs_b6 => kernel_rfl
        case hf_b6 => kernel_rfl
        case hr_b6 => kernel_rfl
        case hQ_b6 => exact fun _ _ _ h => h
        case hS_b6 => assumption
        case hy_b6 => exact Or.inr ⟨by rfl, rfl⟩
        try simp only [Act.put, List.setIfInBounds_toArray, List.set_cons_zero, List.set_cons_succ]
        refine wpAnyH_take (i := 7) (oi := ?oi_b7) (v := undef) ?hi_b7 ?hs_b7 ?hf_b7 ?hr_b7 ?hQ_b7 ?hy_b7 ?hS_b7 ?rest_b7
        case hi_b7 => simp only [List.getElem?_toArray, List.getElem?_cons_succ, List.getElem?_cons_zero] <;> rfl
        case hs_b7 => kernel_rfl
        case hf_b7 => kernel_rfl
        case hr_b7 => kernel_rfl
        case hQ_b7 => exact fun _ _ _ h => h
        case hS_b7 => assumption
        case hy_b7 => exact Or.inr ⟨by rfl, rfl⟩
        try simp only [Act.put, List.setIfInBounds_toArray, List.set_cons_zero, List.set_cons_succ]
        refine wpAnyH_take (i := 8) (oi := ?oi_b8) (v := undef) ?hi_b8 ?hs_b8 ?hf_b8 ?hr_b8 ?hQ_b8 ?hy_b8 ?hS_b8 ?rest_b8
        case hi_b8 => simp only [List.getElem?_toArray, List.getElem?_cons_succ, List.getElem?_cons_zero] <;> rfl
        case hs_b8 => kernel_rfl
        case hf_b8 => kernel_rfl
        case hr_b8 => kernel_rfl
        case hQ_b8 => exact fun _ _ _ h => h
        case hS_b8 => assumption
        case hy_b8 => exact Or.inr ⟨by rfl, rfl⟩
        try simp only [Act.put, List.setIfInBounds_toArray, List.set_cons_zero, List.set_cons_succ]
        refine wpAnyH_take (i := 9) (oi := ?oi_b9) (v := undef) ?hi_b9 ?hs_b9 ?hf_b9 ?hr_b9 ?hQ_b9 ?hy_b9 ?hS_b9 ?rest_b9
        case hi_b9 => simp only [List.getElem?_toArray, List.getElem?_cons_succ, List.getElem?_cons_zero] <;> rfl
        case hs_b9 => kernel_rfl
        case hf_b9 => kernel_rfl
        case hr_b9 => kernel_rfl
        case hQ_b9 => exact fun _ _ _ h => h
        case hS_b9 => assumption
        case hy_b9 => exact Or.inr ⟨by rfl, rfl⟩
        try simp only [Act.put, List.setIfInBounds_toArray, List.set_cons_zero, List.set_cons_succ]
        refine wpAnyH_take (i := 10) (oi := ?oi_b10) (v := undef) ?hi_b10 ?hs_b10 ?hf_b10 ?hr_b10 ?hQ_b10 ?hy_b10 ?hS_b10 ?rest_b10
        case hi_b10 => simp only [List.getElem?_toArray, List.getElem?_cons_succ, List.getElem?_cons_zero] <;> rfl
        case hs_b10 => kernel_rfl
        case hf_b10 => kernel_rfl
        case hr_b10 => kernel_rfl
        case hQ_b10 => exact fun _ _ _ h => h
        case hS_b10 => assumption
        case hy_b10 => exact Or.inr ⟨by rfl, rfl⟩
        try simp only [Act.put, List.setIfInBounds_toArray, List.set_cons_zero, List.set_cons_succ]
        refine wpAnyH_take (i := 11) (oi := ?oi_b11) (v := undef) ?hi_b11 ?hs_b11 ?hf_b11 ?hr_b11 ?hQ_b11 ?hy_b11 ?hS_b11 ?rest_b11
        case hi_b11 => simp only [List.getElem?_toArray, List.getElem?_cons_succ, List.getElem?_cons_zero] <;> rfl
        case hs_b11 => kernel_rfl
        case hf_b11 => kernel_rfl
        case hr_b11 => kernel_rfl
        case hQ_b11 => exact fun _ _ _ h => h
        case hS_b11 => assumption
        case hy_b11 => exact Or.inr ⟨by rfl, rfl⟩
        try simp only [Act.put, List.setIfInBounds_toArray, List.set_cons_zero, List.set_cons_succ]
        refine wpAnyH_take (i := 12) (oi := ?oi_b12) (v := undef) ?hi_b12 ?hs_b12 ?hf_b12 ?hr_b12 ?hQ_b12 ?hy_b12 ?hS_b12 ?rest_b12
        case hi_b12 => simp only [List.getElem?_toArray, List.getElem?_cons_succ, List.getElem?_cons_zero] <;> rfl
        case hs_b12 => kernel_rfl
        case hf_b12 => kernel_rfl
        case hr_b12 => kernel_rfl
        case hQ_b12 => exact fun _ _ _ h => h
        case hS_b12 => assumption
        case hy_b12 => exact Or.inr ⟨by rfl, rfl⟩
        try simp only [Act.put, List.setIfInBounds_toArray, List.set_cons_zero, List.set_cons_succ]
        refine wpAnyH_take (i := 13) (oi := ?oi_b13) (v := ?v_b13) ?hi_b13 ?hs_b13 ?hf_b13 ?hr_b13 ?hQ_b13 ?hy_b13 ?hS_b13 ?rest_b13
        case hi_b13 => simp only [List.getElem?_toArray, List.getElem?_cons_succ, List.getElem?_cons_zero] <;> rfl
        case hs_b13 => kernel_rfl
        case hf_b13 => kernel_rfl
        case hr_b13 => kernel_rfl
        case hQ_b13 => exact fun _ _ _ h => h
        case hS_b13 => assumption
        case hy_b13 =>
          refine Or.inl ⟨by rfl, ?_⟩
          intro w hSw
          (try dsimp only at hSw)
          go_simp
          try with_reducible rfl
        try simp only [Act.put, List.setIfInBounds_toArray, List.set_cons_zero, List.set_cons_succ]
        refine wpAnyH_take (i := 14) (oi := ?oi_b14) (v := ?v_b14) ?hi_b14 ?hs_b14 ?hf_b14 ?hr_b14 ?hQ_b14 ?hy_b14 ?hS_b14 ?rest_b14
        case hi_b14 => simp only [List.getElem?_toArray, List.getElem?_cons_succ, List.getElem?_cons_zero] <;> rfl
        case hs_b14 => kernel_rfl
        case hf_b14 => kernel_rfl
        case hr_b14 => kernel_rfl
        case hQ_b14 => exact fun _ _ _ h => h
        case hS_b14 => assumption
        case hy_b14 =>
          refine Or.inl ⟨by rfl, ?_⟩
          intro w hSw
          (try dsimp only at hSw)
          go_simp
          try with_reducible rfl
        try simp only [Act.put, List.setIfInBounds_toArray, List.set_cons_zero, List.set_cons_succ]
        refine wpAnyH_take (i := 15) (oi := ?oi_b15) (v := ?v_b15) ?hi_b15 ?hs_b15 ?hf_b15 ?hr_b15 ?hQ_b15 ?hy_b15 ?hS_b15 ?rest_b15
        case hi_b15 => simp only [List.getElem?_toArray, List.getElem?_cons_succ, List.getElem?_cons_zero] <;> rfl
        case hs_b15 => kernel_rfl
        case hf_b15 => kernel_rfl
        case hr_b15 => kernel_rfl
        case hQ_b15 => exact fun _ _ _ h => h
        case hS_b15 => assumption
        case hy_b15 =>
          refine Or.inl ⟨by rfl, ?_⟩
          intro w hSw
          (try dsimp only at hSw)
          go_simp
          try with_reducible rfl
        try simp only [Act.put, List.setIfInBounds_toArray, List.set_cons_zero, List.set_cons_succ]
        refine wpAnyH_take (i := 16) (oi := ?oi_b16) (v := ?v_b16) ?hi_b16 ?hs_b16 ?hf_b16 ?hr_b16 ?hQ_b16 ?hy_b16 ?hS_b16 ?rest_b16
        case hi_b16 => simp only [List.getElem?_toArray, List.getElem?_cons_succ, List.getElem?_cons_zero] <;> rfl
        case hs_b16 => kernel_rfl
        case hf_b16 => kernel_rfl
        case hr_b16 => kernel_rfl
        case hQ_b16 => exact fun _ _ _ h => h
        case hS_b16 => assumption
        case hy_b16 =>
          refine Or.inl ⟨by rfl, ?_⟩
          intro w hSw
          (try dsimp only at hSw)
          go_simp
          try with_reducible rfl
        try simp only [Act.put, List.setIfInBounds_toArray, List.set_cons_zero, List.set_cons_succ]
        refine wpAnyH_take (i := 17) (oi := ?oi_b17) (v := ?v_b17) ?hi_b17 ?hs_b17 ?hf_b17 ?hr_b17 ?hQ_b17 ?hy_b17 ?hS_b17 ?rest_b17
        case hi_b17 => simp only [List.getElem?_toArray, List.getElem?_cons_succ, List.getElem?_cons_zero] <;> rfl
        case hs_b17 => kernel_rfl
        case hf_b17 => kernel_rfl
        case hr_b17 => kernel_rfl
        case hQ_b17 => exact fun _ _ _ h => h
        case hS_b17 => assumption
        case hy_b17 =>
          refine Or.inl ⟨by rfl, ?_⟩
          intro w hSw
          (try dsimp only at hSw)
          go_simp
          try with_reducible rfl
        try simp only [Act.put, List.setIfInBounds_toArray, List.set_cons_zero, List.set_cons_succ]
        refine wpAnyH_take (i := 18) (oi := ?oi_b18) (v := ?v_b18) ?hi_b18 ?hs_b18 ?hf_b18 ?hr_b18 ?hQ_b18 ?hy_b18 ?hS_b18 ?rest_b18
        case hi_b18 => simp only [List.getElem?_toArray, List.getElem?_cons_succ, List.getElem?_cons_zero] <;> rfl
        case hs_b18 => kernel_rfl
        case hf_b18 => kernel_rfl
        case hr_b18 => kernel_rfl
        case hQ_b18 => exact fun _ _ _ h => h
        case hS_b18 => assumption
        case hy_b18 =>
          refine Or.inl ⟨by rfl, ?_⟩
          intro w hSw
          (try dsimp only at hSw)
          go_simp
          try with_reducible rfl
        try simp only [Act.put, List.setIfInBounds_toArray, List.set_cons_zero, List.set_cons_succ]
        refine wpAnyH_take (i := 19) (oi := ?oi_b19) (v := ?v_b19) ?hi_b19 ?hs_b19 ?hf_b19 ?hr_b19 ?hQ_b19 ?hy_b19 ?hS_b19 ?rest_b19
        case hi_b19 => simp only [List.getElem?_toArray, List.getElem?_cons_succ, List.getElem?_cons_zero] <;> rfl
        case hs_b19 => kernel_rfl
        case hf_b19 => kernel_rfl
        case hr_b19 => kernel_rfl
        case hQ_b19 => exact fun _ _ _ h => h
        case hS_b19 => assumption
        case hy_b19 =>
          refine Or.inl ⟨by rfl, ?_⟩
          intro w hSw
          (try dsimp only at hSw)
          go_simp
          try with_reducible rfl
        try simp only [Act.put, List.setIfInBounds_toArray, List.set_cons_zero, List.set_cons_succ]
        refine wpAnyH_take (i := 20) (oi := ?oi_b20) (v := ?v_b20) ?hi_b20 ?hs_b20 ?hf_b20 ?hr_b20 ?hQ_b20 ?hy_b20 ?hS_b20 ?rest_b20
        case hi_b20 => simp only [List.getElem?_toArray, List.getElem?_cons_succ, List.getElem?_cons_zero] <;> rfl
        case hs_b20 => kernel_rfl
        case hf_b20 => kernel_rfl
        case hr_b20 => kernel_rfl
        case hQ_b20 => exact fun _ _ _ h => h
        case hS_b20 => assumption
        case hy_b20 =>
          refine Or.inl ⟨by rfl, ?_⟩
          intro w hSw
          (try dsimp only at hSw)
          go_simp
          try with_reducible rfl
        try simp only [Act.put, List.setIfInBounds_toArray, List.set_cons_zero, List.set_cons_succ]
        refine wpAnyH_take (i := 21) (oi := ?oi_b21) (v := ?v_b21) ?hi_b21 ?hs_b21 ?hf_b21 ?hr_b21 ?hQ_b21 ?hy_b21 ?hS_b21 ?rest_b21
        case hi_b21 => simp only [List.getElem?_toArray, List.getElem?_cons_succ, List.getElem?_cons_zero] <;> rfl
        case hs_b21 => kernel_rfl
        case hf_b21 => kernel_rfl
        case hr_b21 => kernel_rfl
        case hQ_b21 => exact fun _ _ _ h => h
        case hS_b21 => assumption
        case hy_b21 =>
          refine Or.inl ⟨by rfl, ?_⟩
          intro w hSw
          (try dsimp only at hSw)
          go_simp
          try with_reducible rfl
        try simp only [Act.put, List.setIfInBounds_toArray, List.set_cons_zero, List.set_cons_succ]
        refine wpAnyH_take (i := 22) (oi := ?oi_b22) (v := ?v_b22) ?hi_b22 ?hs_b22 ?hf_b22 ?hr_b22 ?hQ_b22 ?hy_b22 ?hS_b22 ?rest_b22
        case hi_b22 => simp only [List.getElem?_toArray, List.getElem?_cons_succ, List.getElem?_cons_zero] <;> rfl
        case hs_b22 => kernel_rfl
        case hf_b22 => kernel_rfl
        case hr_b22 => kernel_rfl
        case hQ_b22 => exact fun _ _ _ h => h
        case hS_b22 => assumption
        case hy_b22 =>
          refine Or.inl ⟨by rfl, ?_⟩
          intro w hSw
          (try dsimp only at hSw)
          go_simp
          try with_reducible rfl
        try simp only [Act.put, List.setIfInBounds_toArray, List.set_cons_zero, List.set_cons_succ]
        refine wpAnyH_take (i := 23) (oi := ?oi_b23) (v := ?v_b23) ?hi_b23 ?hs_b23 ?hf_b23 ?hr_b23 ?hQ_b23 ?hy_b23 ?hS_b23 ?rest_b23
        case hi_b23 => simp only [List.getElem?_toArray, List.getElem?_cons_succ, List.getElem?_cons_zero] <;> rfl
        case hs_b23 => kernel_rfl
        case hf_b23 => kernel_rfl
        case hr_b23 => kernel_rfl
        case hQ_b23 => exact fun _ _ _ h => h
        case hS_b23 => assumption
        case hy_b23 =>
          refine Or.inl ⟨by rfl, ?_⟩
          intro w hSw
          (try dsimp only at hSw)
          go_simp
          try with_reducible rfl
        try simp only [Act.put, List.setIfInBounds_toArray, List.set_cons_zero, List.set_cons_succ]
        refine wpAnyH_take (i := 24) (oi := ?oi_b24) (v := ?v_b24) ?hi_b24 ?hs_b24 ?hf_b24 ?hr_b24 ?hQ_b24 ?hy_b24 ?hS_b24 ?rest_b24
        case hi_b24 => simp only [List.getElem?_toArray, List.getElem?_cons_succ, List.getElem?_cons_zero] <;> rfl
        case hs_b24 => kernel_rfl
        case hf_b24 => kernel_rfl
        case hr_b24 => kernel_rfl
        case hQ_b24 => exact fun _ _ _ h => h
        case hS_b24 => assumption
        case hy_b24 =>
          refine Or.inl ⟨by rfl, ?_⟩
          intro w hSw
          (try dsimp only at hSw)
          go_simp
          try with_reducible rfl
        try simp only [Act.put, List.setIfInBounds_toArray, List.set_cons_zero, List.set_cons_succ]
        refine wpAnyH_take (i := 25) (oi := ?oi_b25) (v := ?v_b25) ?hi_b25 ?hs_b25 ?hf_b25 ?hr_b25 ?hQ_b25 ?hy_b25 ?hS_b25 ?rest_b25
        case hi_b25 => simp only [List.getElem?_toArray, List.getElem?_cons_succ, List.getElem?_cons_zero] <;> rfl
        case hs_b25 => kernel_rfl
        case hf_b25 => kernel_rfl
        case hr_b25 => kernel_rfl
        case hQ_b25 => exact fun _ _ _ h => h
        case hS_b25 => assumption
        case hy_b25 =>
          refine Or.inl ⟨by rfl, ?_⟩
          intro w hSw
          (try dsimp only at hSw)
          go_simp
          try with_reducible rfl
        try simp only [Act.put, List.setIfInBounds_toArray, List.set_cons_zero, List.set_cons_succ]
        refine wpAnyH_ready (rs := [26]) (by kernel_rfl) (by simp) ?_
        refine AllReadyH.cons rfl (fun KK hKK => ?_) AllReadyH.nil
        go_simp
        go_wp2_with (first | (go_at_call 10; refine Calls.mono (HP.out.call2 oob (by omega) HIb.out _ (by first | exact Below.refl _ _ | exact (Below.refl _ _).drew)) ?_; rintro e w5 ⟨rfl, V5, S5, M5, cc2, tt2, hp5⟩; have HP5 : Hid _ := hp5; clear hp5; have a1 := HP5.out.a1; obtain ⟨xb0, xb1, xb2, xb3⟩ := HCb.out _ HP5.out.bel))
        refine hKK.out _ _ ?_ (fun hHeld => ?_)
        · first | go_keep | exact ⟨a1, xb0, xb1, xb2, xb3⟩
        clear hKK KK
        refine wpAnyH_take (i := 27) (oi := ?oi_b27) (v := ?v_b27) ?hi_b27 ?hs_b27 ?hf_b27 ?hr_b27 ?hQ_b27 ?hy_b27 ?hS_b27 ?rest_b27
        case hi_b27 => simp only [List.getElem?_toArray, List.getElem?_cons_succ, List.getElem?_cons_zero] <;> rfl
        case hs_b27 => kernel_rfl
        case hf_b27 => kernel_rfl
        case hr_b27 => kernel_rfl
        case hQ_b27 => exact fun _ _ _ h => h
        case hS_b27 => assumption
        case hy_b27 =>
          refine Or.inl ⟨by rfl, ?_⟩
          intro w hSw
          (try dsimp only at hSw)
          go_simp
          try with_reducible rfl
        try simp only [Act.put, List.setIfInBounds_toArray, List.set_cons_zero, List.set_cons_succ]
        refine wpAnyH_take (i := 28) (oi := ?oi_b28) (v := ?v_b28) ?hi_b28 ?hs_b28 ?hf_b28 ?hr_b28 ?hQ_b28 ?hy_b28 ?hS_b28 ?rest_b28
        case hi_b28 => simp only [List.getElem?_toArray, List.getElem?_cons_succ, List.getElem?_cons_zero] <;> rfl
        case hs_b28 => kernel_rfl
        case hf_b28 => kernel_rfl
        case hr_b28 => kernel_rfl
        case hQ_b28 => exact fun _ _ _ h => h
        case hS_b28 => assumption
        case hy_b28 =>
          refine Or.inl ⟨by rfl, ?_⟩
          intro w hSw
          (try dsimp only at hSw)
          go_simp
          try with_reducible rfl
        try simp only [Act.put, List.setIfInBounds_toArray, List.set_cons_zero, List.set_cons_succ]
        refine wpAnyH_take (i := 29) (oi := ?oi_b29) (v := ?v_b29) ?hi_b29 ?hs_b29 ?hf_b29 ?hr_b29 ?hQ_b29 ?hy_b29 ?hS_b29 ?rest_b29
        case hi_b29 => simp only [List.getElem?_toArray, List.getElem?_cons_succ, List.getElem?_cons_zero] <;> rfl
        case hs_b29 => kernel_rfl
        case hf_b29 => kernel_rfl
        case hr_b29 => kernel_rfl
        case hQ_b29 => exact fun _ _ _ h => h
        case hS_b29 => assumption
        case hy_b29 =>
          refine Or.inl ⟨by rfl, ?_⟩
          intro w hSw
          (try dsimp only at hSw)
          go_simp
          try with_reducible rfl
        try simp only [Act.put, List.setIfInBounds_toArray, List.set_cons_zero, List.set_cons_succ]
        refine wpAnyH_done (by kernel_rfl) ?_ _
        all_goals
          have HPR : Hid (Ap w _ xb b1 b2 V5 S5 L M5 (5648 * (j + 1)) _ _ _ _) := HP5.out.mono (by omega)
          clear a0 a1 xb0 xb1 xb2 xb3
          go_wp2
          go_roundw
          case rel => exact ⟨j + 1, V5, S5, M5, _, _, _, _, by have := HMX.out; omega, by go_num, HPR⟩
          case measure => simp [intOf]; have := HMX.out; omega
      · have hjb : ¬ (j : Int) < (nb : Int) := by omega
        obtain ⟨n1, hn1⟩ : ∃ n, (ownL (mapF M'.read c1.d0 c1.d1 c1.d2 c1.d3 c1.d4 c1.m) c1.m).length = n := ⟨_, rfl⟩
        obtain ⟨n2, hn2⟩ : ∃ n, (ownL (mapF M'.read c2.d0 c2.d1 c2.d2 c2.d3 c2.d4 c2.m) c2.m).length = n := ⟨_, rfl⟩
        have hct : nFresh S' M' 96 + (n1 + n2) = 96 := by
          have := two_count (funext HP.out.f1.rest.word) HP.out.f1.rest.away HP.out.f1.ok.file.1 HP.out.f2.ok.file.1 HP.out.two
          rw [hn1, hn2] at this
          exact this
        obtain ⟨cnt, hc1, hc2⟩ : ∃ cnt : Nat → Nat, cnt b1 = n1 ∧ cnt b2 = n2 := ⟨fun b => if b = b1 then n1 else n2, by simp, by simp only []; rw [if_neg (fun e => HP.out.ne e.symm)]⟩
        have HOWN : Hid (∀ v b, Below wr.heap.size wr v → b = b1 ∨ b = b2 → Calls Tryz.prog 12 #[.pointer (some ⟨b, 0, none⟩)] v fun e w' => e = .returned (.int .i64 (cnt b : Nat)) ∧ Below wr.heap.size wr w') := fun v b hb hbb => by
          rcases hbb with rfl | rfl
          · have := own_any b V' S' L M' (5648 * j) 2 c1 t1 v (HP.out.later hb).f1 (by omega) (by omega)
            rw [hn1, ← hc1] at this
            exact this.mono fun e w' h => ⟨h.1, hb.trans (h.2.mono hb.size)⟩
          · have := own_any b V' S' L M' (5648 * j) 3 c2 t2 v (HP.out.later hb).f2 (by omega) (by omega)
            rw [hn2, ← hc2] at this
            exact this.mono fun e w' h => ⟨h.1, hb.trans (h.2.mono hb.size)⟩
        have HWH : Hid (∀ v b, Below wr.heap.size wr v → b = b1 ∨ b = b2 → Calls Tryz.prog 11 #[.pointer (some ⟨b, 0, none⟩)] v fun e w' => e = .returned (.bool true) ∧ Below wr.heap.size wr w') := fun v b hb hbb => by
          rcases hbb with rfl | rfl
          · exact (whole_any b V' S' L M' (5648 * j) 2 c1 t1 v (HP.out.later hb).f1).mono fun e w' h => ⟨h.1, hb.trans (h.2.mono hb.size)⟩
          · exact (whole_any b V' S' L M' (5648 * j) 3 c2 t2 v (HP.out.later hb).f2).mono fun e w' h => ⟨h.1, hb.trans (h.2.mono hb.size)⟩
        have HFR : Hid (∀ v, Below wr.heap.size wr v → Calls Tryz.prog 13 #[.pointer (some ⟨V'.vb, 0, none⟩)] v fun e w' => e = .returned (.int .i64 (nFresh S' M' 96)) ∧ Below wr.heap.size wr w') := fun v hb =>
          (free_any V' S' 0 L M' v (HP.out.later hb).f1.rest.on).mono fun e w' h => ⟨h.1, hb.trans (h.2.mono hb.size)⟩
        obtain ⟨fr, hfr⟩ : ∃ n, nFresh S' M' 96 = n := ⟨_, rfl⟩
        rw [hfr] at HFR hct
        rw [← hc1, ← hc2] at hct
        obtain ⟨k1, hk1⟩ : ∃ n, cnt b1 = n := ⟨_, rfl⟩
        obtain ⟨k2, hk2⟩ : ∃ n, cnt b2 = n := ⟨_, rfl⟩
        have HK1 : Hid (cnt b1 = k1) := hk1
        have HK2 : Hid (cnt b2 = k2) := hk2
        rw [hk1, hk2] at hct
        clear hn1 hn2 hc1 hc2 hfr hk1 hk2
        have HBX : Hid (Below wr.heap.size wr wr) := Below.refl _ _
        go_wp2
        go_region_held3 (fun v' => v'.cell? ⟨xb, 0, none⟩ = some (.pointer (some ⟨b1, 0, none⟩)) ∧ v'.cell? ⟨xb, 1, none⟩ = some (.pointer (some ⟨b2, 0, none⟩))) (first | go_keep | fail "KEEP")
          (first
            | (go_at_call 12; refine Calls.mono (HOWN.out _ _ (by first | exact HBX.out | exact HBX.out.drew) (by first | exact .inl rfl | exact .inr rfl)) ?_; rintro e w5 ⟨rfl, hb5⟩; have a0 := (HP.out.later hb5).a0; have a1 := (HP.out.later hb5).a1; have HBX : Hid (Below wr.heap.size wr w5) := hb5; clear hb5))
        all_goals
          rw [HK1.out, HK2.out]
          have h1 : (0 : Int) ≤ (k1 : Int) := by omega
          have h2 : (0 : Int) ≤ (k2 : Int) := by omega
          have h3 : IntKind.i64.wrap ((96 : Int) - (k1 : Int)) = (96 : Int) - (k1 : Int) := by rw [IntKind.wrap_i64]; omega
          have h4 : IntKind.i64.wrap ((96 : Int) - (k1 : Int) - (k2 : Int)) = (fr : Int) := by rw [IntKind.wrap_i64]; omega
          go_wp2_with (first
            | (go_at_call 11; refine Calls.mono (HWH.out _ _ (by first | exact HBX.out | exact HBX.out.drew) (by first | exact .inl rfl | exact .inr rfl)) ?_; rintro e w6 ⟨rfl, hb6⟩; have a0 := (HP.out.later hb6).a0; have a1 := (HP.out.later hb6).a1; have f0 := (HP.out.later hb6).f1.obj.c0; have HBX : Hid (Below wr.heap.size wr w6) := hb6; clear hb6)
            | (go_at_call 13; refine Calls.mono (HFR.out _ (by first | exact HBX.out | exact HBX.out.drew)) ?_; rintro e w7 ⟨rfl, hb7⟩; have HBX : Hid (Below wr.heap.size wr w7) := hb7; clear hb7)
            | go_in)
          go_ret
          exact ⟨by first | rfl | simp, HP.out.bel.trans (HBX.out.mono HP.out.bel.size)⟩
set_option maxRecDepth 100000 in
theorem lifted (os : Os) (started : os.Started) (H : Type) (enc : TypeId × Value → H) :
    ReturnsInHanded {} Tryz.checked os 4 .any (Rows.bodyApartSpec.pre6 enc Tryz.prog Tryz.f4 Rows.bodyApartRow.domain false) (Rows.bodyApartSpec.post enc Tryz.prog Tryz.f4 false true false false) := by
  refine returnsInHanded_of_change (C := Tryz.checked) own started (by kernel_rfl) Tryz.func4
    (ChangeSpec.witness6 (enc := enc) (C := Tryz.checked) false ⟨#[], #[.slice none 0 0, .slice none 0 0], []⟩ 8 (by kernel_rfl) (by kernel_rfl) (by kernel_rfl) (by kernel_rfl)) ?_
  intro W base args ds gs before hval0 hW hcnd _
  have hval : ∀ (j : Nat) t v, Tryz.f4.params[j]? = some t → args[j]? = some v → Value.okWide Tryz.prog W .any base t v := hval0
  have hW' := hW
  obtain ⟨p, q, hA0, hV, rfl, hfz, hnd⟩ := hW
  have hA : DataW.TrodAll enc Tryz.prog W 0 (fun _ => true) true Tryz.f4.params.toList args.toList ds p := hA0
  rw [Tryz.params4] at hA hval
  obtain ⟨v0, vs0, d0, ds0, p0, q0, hargs, rfl, rfl, h0, r0⟩ := trodAll_cons hA
  obtain ⟨v1, vs1, d1, ds1, p1, q1, rfl, rfl, rfl, h1, r1⟩ := trodAll_cons r0
  obtain ⟨rfl, rfl, rfl⟩ := trodAll_nil r1
  obtain rfl : args = #[v0, v1] := by cases args; simp_all
  obtain ⟨rfl, rfl⟩ := trodVars_none hV
  have k0 := h0
  have lt0 : ∀ x ∈ p0, x.block < W.heap.size := by obtain ⟨m, hm⟩ := k0; exact DataW.trod_lt m _ _ _ hm
  obtain ⟨a0, len0, cap0, rfl⟩ := okWide_slice Tryz.underlying22 (hval 0 22 v0 rfl rfl)
  obtain ⟨cs0, hl0, w0⟩ := open_bops rfl h0
  subst hl0
  have k1 := h1
  have lt1 : ∀ x ∈ p1, x.block < W.heap.size := by obtain ⟨m, hm⟩ := k1; exact DataW.trod_lt m _ _ _ hm
  obtain ⟨a1, len1, cap1, rfl⟩ := okWide_slice Tryz.underlying22 (hval 1 22 v1 rfl rfl)
  obtain ⟨cs1, hl1, w1⟩ := open_bops rfl h1
  subst hl1
  clear hA0 hval0
  refine (walk a0 cap0 cs0 a1 cap1 cs1 W w0 w1).mono fun e W' ⟨he, bel⟩ => ?_
  subst he
  exact ⟨_, rfl, _, _, _, [], _, [], hW', trodAll_mk1 (shut_bool Tryz.underlying4 _), (trodAll_cons_mk (Below.trod laidOut (by kernel_rfl) (of_decide_eq_true (by kernel_rfl)) k0 bel lt0) (trodAll_cons_mk (Below.trod laidOut (by kernel_rfl) (of_decide_eq_true (by kernel_rfl)) k1 bel lt1) trodAll_mk0)), rfl, bel.frame _, fun h => by cases h⟩

theorem over : Rows.bodyApartRow.holds Tryz.pinned (OpenSpec.ofChange Rows.bodyApartSpec) :=
  OpenClaim.holds_of_wide 4 Tryz.f4 rfl rfl rfl rfl rfl rfl rfl ⟨rfl, rfl, rfl, rfl, rfl⟩ rfl rfl rfl rfl rfl (by kernel_rfl) Tryz.func4 (by kernel_rfl)
    (of_decide_eq_true (by kernel_rfl)) (by unfold Func.isWrapper; first | (rw [if_pos (by decide +kernel)]; kernel_rfl) | (rw [if_neg (by decide +kernel)]; exact ⟨rfl, rfl⟩))
    (fun os started H enc _ => lifted os started H enc)

theorem proved : Rows.BodyApartSaid := over
#print axioms proved
end Go.Proofs.YtdjnkibnnjobpaaGreat.bodyApart
