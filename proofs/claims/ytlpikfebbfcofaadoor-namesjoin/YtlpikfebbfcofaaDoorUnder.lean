/- Contracts of Under, and of the document's; and the statements' head answers true. -/
import Derived.Test.YtlpikfebbfcofaaDoorParent
namespace Go.Proofs.YtlpikfebbfcofaaDoor
open Go.RowKit

theorem Un_noneA {a b : List UInt8} (h : Sp a = none) : Un a b = false := by unfold Un; rw [h]
theorem Un_noneB {a b : List UInt8} (h : Sp b = none) : Un a b = false := by unfold Un; rw [h]; cases Sp a <;> rfl
theorem Un_len {a b : List UInt8} {x y : List (List UInt8)} (h1 : Sp a = some x) (h2 : Sp b = some y) (h : y.length < x.length) : Un a b = false := by
  unfold Un; rw [h1, h2]
  show (x == y.take x.length) = false
  rw [beq_eq_false_iff_ne]
  intro e
  have := congrArg List.length e
  rw [List.length_take] at this
  omega
theorem Un_some {a b : List UInt8} {x y : List (List UInt8)} (h1 : Sp a = some x) (h2 : Sp b = some y) : Un a b = decide (mks x = (mks y).take x.length) := by
  unfold Un; rw [h1, h2]
  show (x == y.take x.length) = _
  rw [Bool.eq_iff_iff, beq_iff_eq, decide_eq_true_eq]
  constructor
  · intro e
    have : mks x = mks (y.take x.length) := congrArg mks e
    rw [this]; simp [mks, List.map_take]
  · intro e
    have : lss (mks x) = lss ((mks y).take x.length) := congrArg lss e
    rw [lss_mks] at this
    refine this.trans ?_
    unfold lss
    rw [List.map_take]
    show (lss (mks y)).take x.length = _
    rw [lss_mks]

theorem below_drews (w : World) (z q : Nat) {n : Nat} (h : n ≤ w.heap.size) : Below n w ((w.drewN z).drewN q) := by
  rw [World.drewN_drewN]; exact (below_drew w _).mono h

set_option maxHeartbeats 1000000 in
theorem under_any (p q : ByteArray) (w : World) (hm : HM w) (hp : p.size ≤ maxLen) (hq : q.size ≤ maxLen) :
    Calls Tryd.prog 16 #[.string p, .string q] w fun e w' => e = .returned (.bool (Un (ls p) (ls q))) ∧ Below w.heap.size w w' := by
  have C := nsplit_any p w hm hp
  have D : Hid (∀ w, HM w → Calls Tryd.prog 9 #[.string q] w fun e w' => Ans (Sp (ls q)) w e w') := fun w hm => nsplit_any q w hm hq
  cases hS : Sp (ls p) with
  | none =>
    rw [Un_noneA hS]
    rw [hS] at C
    have HC : Hid _ := C
    clear C hS hp hq D
    go_enter Tryd.func16, Tryd.ntmps16
    go_wp2_with fail
    refine Calls.mono (Hid.out HC) ?_
    rintro e w1 ⟨rfl, hb⟩
    go_wp2
    go_ret
    exact ⟨rfl, hb⟩
  | some x =>
    obtain ⟨hlen, hz⟩ := Sp_small hS
    rw [hS] at C
    have HC : Hid _ := C
    clear C hz
    cases hT : Sp (ls q) with
    | none =>
      rw [Un_noneB hT]
      rw [hT] at D
      clear hS hT hp hq
      go_enter Tryd.func16, Tryd.ntmps16
      go_wp2_with fail
      refine Calls.mono (Hid.out HC) ?_
      rintro e w1 ⟨a, c, rfl, _, _, hb⟩
      have hm1 := hm.below hb
      go_wp2_with fail
      refine Calls.mono (Hid.out D _ hm1) ?_
      rintro e w2 ⟨rfl, hb2⟩
      go_wp2
      go_ret
      exact ⟨rfl, below_chain hb hb2⟩
    | some y =>
      obtain ⟨hlen2, hz⟩ := Sp_small hT
      clear hz
      rw [hT] at D
      by_cases hl : y.length < x.length
      · rw [Un_len hS hT hl]
        clear hS hT hp hq
        rw [← mks_len, ← mks_len] at hl
        rw [← mks_len] at hlen hlen2
        go_enter Tryd.func16, Tryd.ntmps16
        go_wp2_with fail
        refine Calls.mono (Hid.out HC) ?_
        rintro e w1 ⟨a, c, rfl, _, _, hb⟩
        have hm1 := hm.below hb
        go_wp2_with fail
        refine Calls.mono (Hid.out D _ hm1) ?_
        rintro e w2 ⟨a2, c2, rfl, _, _, hb2⟩
        have hl' : ((mks y).length : Int) < ((mks x).length : Int) := by omega
        go_wp2
        go_ret
        exact ⟨rfl, below_chain hb hb2⟩
      · have HU : Hid (Un (ls p) (ls q) = decide (mks x = (mks y).take x.length)) := Un_some hS hT
        obtain ⟨U, hU⟩ : ∃ U, Un (ls p) (ls q) = U := ⟨_, rfl⟩
        rw [hU] at HU ⊢
        clear hU hS hT hp hq
        rw [← mks_len, ← mks_len] at hl
        rw [← mks_len] at hlen hlen2 HU
        go_enter Tryd.func16, Tryd.ntmps16
        go_wp2_with fail
        refine Calls.mono (Hid.out HC) ?_
        rintro e w1 ⟨a, c, rfl, hc, ht, hb⟩
        have hm1 := hm.below hb
        go_wp2_with fail
        refine Calls.mono (Hid.out D _ hm1) ?_
        rintro e w2 ⟨a2, c2, rfl, hc2, ht2, hb2⟩
        have EQ : Hid (Calls Tryd.prog 26 #[.slice a (mks x).length c, .slice a2 (mks x).length c2] w2 fun e w' => e = .returned (.bool U) ∧ ∃ m, w' = w2.drewN m) := by
          show Calls _ _ _ _ _
          have hlt : ((mks y).take (mks x).length).length = (mks x).length := by rw [List.length_take]; omega
          have := equal_any a a2 c c2 (mks x) ((mks y).take (mks x).length) w2 (ht.below hb2 (Nat.le_refl _)) (ht2.take _) (by omega)
          rw [hlt] at this
          rw [HU.out]
          exact this
        clear ht ht2
        obtain ⟨n, hn⟩ : ∃ n, (mks x).length = n := ⟨_, rfl⟩
        obtain ⟨m, hm⟩ : ∃ m, (mks y).length = m := ⟨_, rfl⟩
        rw [hn] at hl hlen hc EQ ⊢
        rw [hm] at hl hlen2 hc2 ⊢
        have hl' : ¬ (m : Int) < (n : Int) := by omega
        have hl2 : (n : Int) ≤ (m : Int) := by omega
        clear hn hm
        go_wp2_with fail
        refine Calls.mono (Hid.out EQ) ?_
        rintro e w3 ⟨rfl, m3, rfl⟩
        go_wp2
        go_ret
        exact ⟨rfl, (below_chain hb hb2).trans ((below_drew w2 _).mono (Nat.le_trans hb.size hb2.size))⟩

set_option maxHeartbeats 2000000 in
theorem refUnder_any (p q : ByteArray) (w : World) (hp : p.size ≤ 1048576) (hq : q.size ≤ 1048576) :
    Calls Tryd.prog 17 #[.string p, .string q] w fun e w' => e = .returned (.bool (Un (ls p) (ls q))) ∧ Below w.heap.size w w' := by
  have C := refSplit_any p w hp
  have D : Hid (∀ w, Calls Tryd.prog 10 #[.string q] w fun e w' => Ans (Sp (ls q)) w e w') := fun w => refSplit_any q w hq
  cases hS : Sp (ls p) with
  | none =>
    rw [Un_noneA hS]
    rw [hS] at C
    have HC : Hid _ := C
    cases hT : Sp (ls q) with
    | none =>
      rw [hT] at D
      clear C hS hT hp hq
      go_enter Tryd.func17, Tryd.ntmps17
      go_wp2_with fail
      refine Calls.mono (Hid.out HC) ?_
      rintro e w1 ⟨rfl, hb⟩
      go_wp2_with fail
      refine Calls.mono (Hid.out D _) ?_
      rintro e w2 ⟨rfl, hb2⟩
      go_wp2
      go_ret
      exact ⟨rfl, below_chain hb hb2⟩
    | some y =>
      rw [hT] at D
      clear C hS hT hp hq
      go_enter Tryd.func17, Tryd.ntmps17
      go_wp2_with fail
      refine Calls.mono (Hid.out HC) ?_
      rintro e w1 ⟨rfl, hb⟩
      go_wp2_with fail
      refine Calls.mono (Hid.out D _) ?_
      rintro e w2 ⟨a2, c2, rfl, _, _, hb2⟩
      go_wp2
      go_ret
      exact ⟨rfl, below_chain hb hb2⟩
  | some x =>
    obtain ⟨hlen, hz⟩ := Sp_small hS
    rw [hS] at C
    have HC : Hid _ := C
    clear C hz
    cases hT : Sp (ls q) with
    | none =>
      rw [Un_noneB hT]
      rw [hT] at D
      clear hS hT hp hq
      go_enter Tryd.func17, Tryd.ntmps17
      go_wp2_with fail
      refine Calls.mono (Hid.out HC) ?_
      rintro e w1 ⟨a, c, rfl, _, _, hb⟩
      go_wp2_with fail
      refine Calls.mono (Hid.out D _) ?_
      rintro e w2 ⟨rfl, hb2⟩
      go_wp2
      go_ret
      exact ⟨rfl, below_chain hb hb2⟩
    | some y =>
      obtain ⟨hlen2, hz⟩ := Sp_small hT
      clear hz
      rw [hT] at D
      by_cases hl : y.length < x.length
      · rw [Un_len hS hT hl]
        clear hS hT hp hq
        rw [← mks_len, ← mks_len] at hl
        rw [← mks_len] at hlen hlen2
        go_enter Tryd.func17, Tryd.ntmps17
        go_wp2_with fail
        refine Calls.mono (Hid.out HC) ?_
        rintro e w1 ⟨a, c, rfl, _, _, hb⟩
        go_wp2_with fail
        refine Calls.mono (Hid.out D _) ?_
        rintro e w2 ⟨a2, c2, rfl, _, _, hb2⟩
        have hl' : ((mks y).length : Int) < ((mks x).length : Int) := by omega
        go_wp2
        go_ret
        exact ⟨rfl, below_chain hb hb2⟩
      · have HU : Hid (Un (ls p) (ls q) = decide (mks x = (mks y).take x.length)) := Un_some hS hT
        obtain ⟨U, hU⟩ : ∃ U, Un (ls p) (ls q) = U := ⟨_, rfl⟩
        rw [hU] at HU ⊢
        clear hU hS hT hp hq
        rw [← mks_len, ← mks_len] at hl
        rw [← mks_len] at hlen hlen2 HU
        go_enter Tryd.func17, Tryd.ntmps17
        go_wp2_with fail
        refine Calls.mono (Hid.out HC) ?_
        rintro e w1 ⟨a, c, rfl, hc, ht, hb⟩
        go_wp2_with fail
        refine Calls.mono (Hid.out D _) ?_
        rintro e w2 ⟨a2, c2, rfl, hc2, ht2, hb2⟩
        have hbb := below_chain hb hb2
        have hta := ht.below hb2 (Nat.le_refl _)
        obtain ⟨X, hX⟩ : ∃ X, mks x = X := ⟨_, rfl⟩
        obtain ⟨Y, hY⟩ : ∃ Y, mks y = Y := ⟨_, rfl⟩
        rw [hX] at hl hlen HU hta hc ⊢
        rw [hY] at hl hlen2 HU ht2 hc2 ⊢
        clear ht hX hY HC D hb hb2
        by_cases h0 : X.length = 0
        · have E : Hid (U = true) := by
            show U = true
            rw [HU.out, h0, decide_eq_true_eq, List.take_zero]; exact List.length_eq_zero_iff.1 h0
          rw [h0]
          clear hta ht2 hl hlen h0
          go_wp2
          go_loop [9] (fun i => i = .int .i64 0) (fun _ => 0)
          case atStart => rfl
          case round =>
            subst hrel
            go_wp2
            go_ret
            exact ⟨ret_bool E.out.symm, hbb⟩
        · obtain ⟨b1, o1, rfl, _, q1⟩ := hta.resolve_left (by intro e; subst e; exact h0 rfl)
          obtain ⟨b2, o2, rfl, _, q2⟩ := ht2.resolve_left (by intro e; subst e; rw [List.length_nil] at hl; omega)
          have H1 : Hid (∀ i, i < X.length → w2.cell? ⟨b1, o1 + i, none⟩ = some (.string (nth X i))) := q1
          have H2 : Hid (∀ i, i < Y.length → w2.cell? ⟨b2, o2 + i, none⟩ = some (.string (nth Y i))) := q2
          obtain ⟨n, hn⟩ : ∃ n, X.length = n := ⟨_, rfl⟩
          obtain ⟨m, hm⟩ : ∃ m, Y.length = m := ⟨_, rfl⟩
          have HN : Hid (X.length = n) := hn
          have HM2 : Hid (Y.length = m) := hm
          rw [hn] at hl hlen hc H1 HU ⊢
          rw [hm] at hl hlen2 hc2 H2 ⊢
          have hl' : ¬ (m : Int) < (n : Int) := by omega
          have hl2 : (n : Int) ≤ (m : Int) := by omega
          clear hn hm hta ht2 q1 q2 h0
          go_wp2
          go_loopw [9] (fun i wr => ∃ k z : Nat, k ≤ n ∧ i = .int .i64 k ∧ wr = w2.drewN z ∧ Hid (∀ j, j < k → nth X j = nth Y j)) (fun i _ => n - (intOf i).toNat)
          case atStart => exact ⟨0, 0, Nat.zero_le _, rfl, rfl, fun j hj => absurd hj (Nat.not_lt_zero j)⟩
          case round =>
            obtain ⟨k, z, hk, rfl, rfl, H⟩ := hrel
            by_cases hlt : k < n
            · have x1 := H1.out k hlt
              have x2 := H2.out k (by omega)
              have hb : (k : Int) < (n : Int) := by omega
              have hb2 : (k : Int) < (m : Int) := by omega
              obtain ⟨x', hX⟩ : ∃ x', nth X k = x' := ⟨_, rfl⟩
              obtain ⟨y', hY⟩ : ∃ y', nth Y k = y' := ⟨_, rfl⟩
              rw [hX] at x1
              rw [hY] at x2
              have KX : Hid (nth X k = x') := hX
              have KY : Hid (nth Y k = y') := hY
              clear hX hY
              by_cases he : x' = y'
              · subst he
                go_wp2
                go_quiet (fail)
                go_wp2
                go_roundw
                case rel => exact ⟨k + 1, _, by omega, by go_num, rfl, fun j hj => by
                  by_cases e : j = k
                  · subst e; rw [KX.out, KY.out]
                  · exact H.out j (by omega)⟩
                case measure => simp [intOf]; omega
              · have e1 : ¬ x'.toList = y'.toList := by
                  rw [ByteArray.toList_eq, ByteArray.toList_eq]; exact fun e => he (ls_inj e)
                have e2 : (x'.toList == y'.toList) = false := by simpa using e1
                have HE : Hid (¬ x' = y') := he
                clear he
                go_wp2
                go_quiet (fail)
                go_wp2
                go_ret
                refine ⟨ret_bool ?_, hbb.trans (below_drews w2 z _ hbb.size)⟩
                rw [HU.out]
                symm
                rw [decide_eq_false_iff_not]
                intro e
                apply HE.out
                rw [← KX.out, ← KY.out, e]
                have h1 : k < Y.length := by rw [HM2.out]; omega
                have h2 : k < (Y.take n).length := by rw [List.length_take]; omega
                rw [nth_eq _ _ h1, nth_eq _ _ h2, List.getElem_take]
            · go_wp2
              go_ret
              refine ⟨ret_bool ?_, hbb.trans ((below_drew w2 z).mono hbb.size)⟩
              rw [HU.out]
              symm
              rw [decide_eq_true_eq]
              have hY := HM2.out
              have hX := HN.out
              refine eq_of_nth (by rw [List.length_take]; omega) (fun j hj => ?_)
              rw [H.out j (by omega)]
              have h1 : j < Y.length := by omega
              have h2 : j < (Y.take n).length := by rw [List.length_take]; omega
              rw [nth_eq _ _ h1, nth_eq _ _ h2, List.getElem_take]
end Go.Proofs.YtlpikfebbfcofaaDoor
