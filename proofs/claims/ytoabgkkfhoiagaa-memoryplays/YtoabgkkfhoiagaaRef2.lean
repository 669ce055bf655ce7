/- The document's memory: Store, Stop, Evict. -/
import Derived.Test.YtoabgkkfhoiagaaRef
namespace Go.Proofs.Ytoabgkkfhoiagaa
open Go.RowKit Go.Maps Go.ChangeMaps

theorem fld5 {x y : RW} {f : Nat} (h0 : f ≠ 0 → x.sure = y.sure) (h1 : f ≠ 1 → x.now = y.now) (h2 : f ≠ 2 → x.way = y.way) (h3 : f ≠ 3 → x.loose = y.loose) (h4 : f ≠ 4 → x.goes = y.goes) : ∀ g, g < 5 → g ≠ f → fld x g = fld y g := by
  intro g hg hne
  match g, hg with
  | 0, _ => simp [fld, h0 (Ne.symm hne)]
  | 1, _ => simp [fld, h1 (Ne.symm hne)]
  | 2, _ => simp [fld, h2 (Ne.symm hne)]
  | 3, _ => simp [fld, h3 (Ne.symm hne)]
  | 4, _ => simp [fld, h4 (Ne.symm hne)]

theorem updR_twice (R : Nat → RW) (i : Nat) (x y : RW) : updR (updR R i x) i y = updR R i y := by
  funext j; unfold updR; by_cases e : j = i <;> simp [e]

theorem has_nat {M : Mem} {k : Int} (h : M.has k = true) : ∃ j : Nat, k = j ∧ j < M.sure.length := by
  have hb : 0 ≤ k ∧ k < M.sure.length := by simpa [Mem.has] using h
  exact ⟨k.toNat, by omega, by omega⟩

theorem words_store {M : Mem} {R : Nat → RW} (hW : Words M R) (j : Nat) (v : Int) : Words { M with loose := upd M.loose j (some v) } (updR R j { R j with now := v, loose := true }) where
  sure i hi := by
    by_cases e : i = j
    · subst e; rw [updR_same]; exact hW.sure i hi
    · rw [updR_other _ _ e]; exact hW.sure i hi
  now i hi := by
    rw [read_of _ i hi]
    by_cases e : i = j
    · subst e; rw [updR_same]; show v = (upd M.loose i (some v) i).getD _; rw [upd_same]; rfl
    · rw [updR_other _ _ e, hW.now i hi, read_of M i hi]
      show _ = (upd M.loose j (some v) i).getD _
      rw [upd_other _ _ (by omega)]
  loose i hi := by
    by_cases e : i = j
    · subst e; rw [updR_same]; show true = (upd M.loose i (some v) i).isSome; rw [upd_same]; rfl
    · rw [updR_other _ _ e, hW.loose i hi]
      show _ = (upd M.loose j (some v) i).isSome
      rw [upd_other _ _ (by omega)]
  goes i hi := by
    by_cases e : i = j
    · subst e; rw [updR_same]; exact hW.goes i hi
    · rw [updR_other _ _ e]; exact hW.goes i hi
  way i u hi hu := by
    by_cases e : i = j
    · subst e; rw [updR_same]; exact hW.way i u hi hu
    · rw [updR_other _ _ e]; exact hW.way i u hi hu

theorem sound_store {M : Mem} (hS : Sound M) (j : Nat) (v : Int) (hj : j < M.sure.length) : Sound { M with loose := upd M.loose j (some v) } where
  way k hk := by
    show (upd M.loose j (some v) k).isSome = true
    by_cases e : k = j
    · rw [e, upd_same]; rfl
    · rw [upd_other _ _ e]; exact hS.way k hk
  stop := hS.stop
  looseIn k u hu := by
    by_cases e : k = j
    · subst e; show 0 ≤ (j : Int) ∧ (j : Int) < M.sure.length; omega
    · have : M.loose k = some u := by
        have h2 : upd M.loose j (some v) k = some u := hu
        rwa [upd_other _ _ e] at h2
      exact hS.looseIn k u this

theorem store_ref (L : RLay) (M : Mem) (k v : Int) (w : World) (H : RefIs w L M) (hc : M.calls < 1000000000) :
    Calls Try.prog 35 #[.pointer (some ⟨L.rb, 0, none⟩), .int .i64 k, .int .u64 v] w fun e w' => e = .returned (.int .i64 (M.errAt k)) ∧ RefIs w' L (M.store k v) ∧ Only L.blocks w w' := by
  cases hst : M.still with
  | true =>
    have e1 : M.err = 14 := by simp [Mem.err, hst]
    have e2 : M.errAt k = 14 := by simp [Mem.errAt, hst]
    have e3 : M.store k v = M.counted := by simp [Mem.store, e2]
    rw [e2, e3]
    go_enter Try.func35, Try.ntmps35
    go_wp2_with (go_at_call 47; refine (call_ref L M _ H hc).mono ?_; rintro e w' ⟨rfl, h1, o1⟩; rw [e1])
    go_ret
    exact ⟨rfl, h1, ronly_sub o1 (by simp [RLay.blocks])⟩
  | false =>
    have e1 : M.err = 0 := by simp [Mem.err, hst]
    cases hh : M.has k with
    | false =>
      have e2 : M.errAt k = 1 := by simp [Mem.errAt, hst, hh]
      have e3 : M.counted.has k = false := hh
      have e4 : M.store k v = M.counted := by simp [Mem.store, e2]
      rw [e2, e4]
      go_enter Try.func35, Try.ntmps35
      go_wp2_with (first
        | (go_at_call 47; refine (call_ref L M _ H hc).mono ?_; rintro e w' ⟨rfl, h1, o1⟩; rw [e1])
        | (go_at_call 48; refine (there_ref L M.counted k _ h1).mono ?_; rintro e w' ⟨rfl, rfl⟩; rw [e3]))
      go_ret
      exact ⟨rfl, h1, ronly_sub o1 (by simp [RLay.blocks])⟩
    | true =>
      have e2 : M.errAt k = 0 := by simp [Mem.errAt, hst, hh]
      have e3 : M.counted.has k = true := hh
      have e4 : M.store k v = { M.counted with loose := upd M.loose k (some v) } := by simp [Mem.store, e2]
      obtain ⟨j, rfl, hj⟩ := has_nat hh
      have hji : (j : Int) < (M.sure.length : Int) := by omega
      rw [e2, e4]
      clear e4 hh e2 hst
      go_enter Try.func35, Try.ntmps35
      go_wp2_with fail
      refine (call_ref L M _ H hc).mono ?_
      rintro e w1 ⟨rfl, h1, o1⟩
      rw [e1]
      go_wp2_with fail
      refine (there_ref L M.counted j _ h1).mono ?_
      rintro e w2 ⟨rfl, hw⟩
      obtain rfl := hw.symm
      rw [e3]
      obtain ⟨R, hR, hW, hS⟩ := h1
      have hR0 : RefAt w1 L M.sure.length R (M.calls + 1) (haltOf M) := hR
      have e := hR0.some_of_pos (Nat.zero_lt_of_lt hj)
      have c0 := hR0.c0
      rw [e] at c0
      have cn := hR0.cell j 1 hj (by omega)
      have fn := hR0.cellFz (Nat.zero_lt_of_lt hj) (j * 5 + 1)
      have hR1 := hR0.set j 1 { R j with now := v } hj (by omega) (fld5 (fun _ => rfl) (fun h => absurd rfl h) (fun _ => rfl) (fun _ => rfl) (fun _ => rfl))
      have c0' := hR1.c0
      rw [e] at c0'
      have cl := hR1.cell j 3 hj (by omega)
      have fl := hR1.cellFz (Nat.zero_lt_of_lt hj) (j * 5 + 3)
      have hR2 := hR1.set j 3 { R j with now := v, loose := true } hj (by omega) (by rw [updR_same]; exact fld5 (fun _ => rfl) (fun _ => rfl) (fun _ => rfl) (fun h => absurd rfl h) (fun _ => rfl))
      rw [updR_twice] at hR2
      simp only [fld, updR_same] at cn cl c0' hR1 hR2 fl
      have FIN : Hid (RefIs _ L { M.counted with loose := upd M.loose j (some v) }) := ⟨_, hR2, words_store hW j v, sound_store hS j v hj⟩
      clear hR1 hR2 hR0 hR hW hS
      go_wp2
      go_ret
      exact ⟨rfl, FIN.out, ((ronly_sub o1 (by simp [RLay.blocks])).setCell (by simp [RLay.blocks]) _).setCell (by simp [RLay.blocks]) _⟩

theorem stop_ref (L : RLay) (M : Mem) (n : Int) (w : World) (H : RefIs w L M) (hc : M.calls < 1000000000) :
    Calls Try.prog 39 #[.pointer (some ⟨L.rb, 0, none⟩), .int .i64 n] w fun e w' => e = .returned (.tuple #[]) ∧ RefIs w' L (M.stop n) ∧ Only L.blocks w w' := by
  obtain ⟨R, h, hW, hS⟩ := H
  have c2 := h.c2
  have f2 := h.fz 2
  have h1 : RefAt (w.setCell ⟨L.rb, 2, none⟩ (.int .i64 (-1))) L M.sure.length R M.calls (-1) := h.fields (rheap2 h.obj _) (fun k hk => Below.heap_setCell _ _ _ _ hk)
  have o1 : Only L.blocks w (w.setCell ⟨L.rb, 2, none⟩ (.int .i64 (-1))) := (Only.refl _ _).setCell (by simp [RLay.blocks]) _
  have c1' := h1.c1
  have f2' := h1.fz 2
  by_cases h0 : 0 ≤ n
  · by_cases h2 : n ≤ 1099511627776
    · have hm : M.stop n = { M with stops := true, stopAt := M.calls + n } := by simp [Mem.stop, h0, h2]
      rw [hm]
      go_enter Try.func39, Try.ntmps39
      go_wp2
      go_end0
      refine ⟨rfl, ⟨R, ?_, ⟨hW.sure, hW.now, hW.loose, hW.goes, hW.way⟩, ⟨hS.way, fun _ => by show 0 ≤ (M.calls : Int) + n; omega, hS.looseIn⟩⟩, o1.setCell (by simp [RLay.blocks]) _⟩
      exact h1.fields (rheap2 h1.obj _) (fun k hk => Below.heap_setCell _ _ _ _ hk)
    · have hm : M.stop n = { M with stops := false, stopAt := 0 } := by simp [Mem.stop, h2]
      rw [hm]
      go_enter Try.func39, Try.ntmps39
      go_wp2
      go_end0
      exact ⟨rfl, ⟨R, h1, ⟨hW.sure, hW.now, hW.loose, hW.goes, hW.way⟩, ⟨hS.way, (fun x => by cases x), hS.looseIn⟩⟩, o1⟩
  · have hm : M.stop n = { M with stops := false, stopAt := 0 } := by simp [Mem.stop, h0]
    rw [hm]
    go_enter Try.func39, Try.ntmps39
    go_wp2
    go_end0
    exact ⟨rfl, ⟨R, h1, ⟨hW.sure, hW.now, hW.loose, hW.goes, hW.way⟩, ⟨hS.way, (fun x => by cases x), hS.looseIn⟩⟩, o1⟩

theorem words_evict {M : Mem} {R : Nat → RW} (hW : Words M R) (j : Nat) (v : Int) (hl : M.loose j = some v) (hj : j < M.sure.length) : Words (M.evict j) (updR R j { R j with sure := (R j).now, loose := false, goes := false }) := by
  have e : M.evict j = { M with sure := M.sure.set j v, loose := upd M.loose j none, way := upd M.way j none } := by simp [Mem.evict, hl]
  have hn : (R j).now = v := by rw [hW.now j hj, read_of M j hj, hl]; rfl
  have hlen : (M.evict j).sure.length = M.sure.length := evict_len M j
  refine ⟨fun i hi => ?_, fun i hi => ?_, fun i hi => ?_, fun i hi => ?_, fun i u hi hu => ?_⟩
  · rw [hlen] at hi
    rw [e]
    show _ = (M.sure.set j v).getD i 0
    by_cases e1 : i = j
    · subst e1; rw [updR_same]; show (R i).now = _; rw [hn]; simp [List.getD, hi]
    · rw [updR_other _ _ e1, hW.sure i hi]
      have : j ≠ i := fun x => e1 x.symm
      simp [List.getD, this]
  · rw [read_of _ i hi]
    rw [hlen] at hi
    rw [evict_loose, e]
    show _ = Option.getD _ ((M.sure.set j v).getD i 0)
    by_cases e1 : i = j
    · subst e1; rw [updR_same, if_pos rfl]; show (R i).now = _; rw [hn]; simp [List.getD, hi]
    · rw [updR_other _ _ e1, hW.now i hi, read_of M i hi, if_neg (by omega)]
      have : j ≠ i := fun x => e1 x.symm
      simp [List.getD, this]
  · rw [hlen] at hi
    rw [evict_loose]
    by_cases e1 : i = j
    · subst e1; rw [updR_same, if_pos rfl]; rfl
    · rw [updR_other _ _ e1, hW.loose i hi, if_neg (by omega)]
  · rw [hlen] at hi
    rw [e]
    show _ = (upd M.way j none i).isSome
    by_cases e1 : i = j
    · subst e1; rw [updR_same, upd_same]; rfl
    · rw [updR_other _ _ e1, hW.goes i hi, upd_other _ _ (by omega)]
  · rw [hlen] at hi
    rw [e] at hu
    have hu' : upd M.way j none i = some u := hu
    by_cases e1 : i = j
    · subst e1; rw [upd_same] at hu'; cases hu'
    · rw [upd_other _ _ (by omega)] at hu'
      rw [updR_other _ _ e1]; exact hW.way i u hi hu'

theorem sound_evict {M : Mem} (hS : Sound M) (k : Int) : Sound (M.evict k) where
  way j hj := by
    rw [evict_loose]
    unfold Mem.evict at hj
    split at hj
    · rename_i h
      by_cases e : j = k
      · subst e
        have := hS.way j hj
        rw [h] at this; cases this
      · rw [if_neg e]; exact hS.way j hj
    · by_cases e : j = k
      · subst e
        have h2 : (upd M.way j none j).isSome = true := hj
        rw [upd_same] at h2; cases h2
      · rw [if_neg e]
        have h2 : (upd M.way k none j).isSome = true := hj
        rw [upd_other _ _ e] at h2
        exact hS.way j h2
  stop := by
    intro h
    unfold Mem.evict at h ⊢
    split at h
    · exact hS.stop h
    · exact hS.stop h
  looseIn j v hv := by
    rw [evict_loose] at hv
    rw [evict_len]
    split at hv
    · cases hv
    · exact hS.looseIn j v hv

set_option maxHeartbeats 2000000 in
set_option maxRecDepth 100000 in
theorem evict_ref (L : RLay) (M : Mem) (k : Int) (w : World) (H : RefIs w L M) :
    Calls Try.prog 38 #[.pointer (some ⟨L.rb, 0, none⟩), .int .i64 k] w fun e w' => e = .returned (.tuple #[]) ∧ RefIs w' L (M.evict k) ∧ Only L.blocks w w' := by
  cases hh : M.has k with
  | false =>
    obtain ⟨R, hR, hW, hS⟩ := id H
    have hl : M.loose k = none := by
      cases hl : M.loose k with
      | none => rfl
      | some v =>
        have := hS.looseIn k v hl
        simp [Mem.has] at hh
        omega
    have e1 : M.evict k = M := by simp [Mem.evict, hl]
    rw [e1]
    clear hR hW hS hl e1
    go_enter Try.func38, Try.ntmps38
    go_wp2_with (go_at_call 48; refine (there_ref L M k _ H).mono ?_; rintro e w' ⟨rfl, hw⟩; obtain rfl := hw.symm; rw [hh])
    go_end0
    exact ⟨rfl, H, Only.refl _ _⟩
  | true =>
    obtain ⟨j, rfl, hj⟩ := has_nat hh
    have hji : (j : Int) < (M.sure.length : Int) := by omega
    obtain ⟨R, hR, hW, hS⟩ := id H
    have e := hR.some_of_pos (Nat.zero_lt_of_lt hj)
    have c0 := hR.c0
    rw [e] at c0
    have cl := hR.cell j 3 hj (by omega)
    simp only [fld] at cl
    rw [hW.loose j hj] at cl
    cases hl : M.loose j with
    | none =>
      have e1 : M.evict j = M := by simp [Mem.evict, hl]
      rw [e1]
      rw [hl] at cl
      simp only [Option.isSome_none] at cl
      clear hR hW hS hl e1
      go_enter Try.func38, Try.ntmps38
      go_wp2_with (first
        | (go_at_call 48; refine (there_ref L M j _ H).mono ?_; rintro e w' ⟨rfl, hw⟩; obtain rfl := hw.symm; rw [hh])
        | go_in)
      go_end0
      exact ⟨rfl, H, Only.refl _ _⟩
    | some v =>
      rw [hl] at cl
      simp only [Option.isSome_some] at cl
      have cn := hR.cell j 1 hj (by omega)
      have cs := hR.cell j 0 hj (by omega)
      have fs := hR.cellFz (Nat.zero_lt_of_lt hj) (j * 5)
      have hR1 := hR.set j 0 { R j with sure := (R j).now } hj (by omega) (fld5 (fun h => absurd rfl h) (fun _ => rfl) (fun _ => rfl) (fun _ => rfl) (fun _ => rfl))
      simp only [fld, Nat.add_zero] at cn cs hR1
      have o1 : Only L.blocks w (w.setCell ⟨L.gb, j * 5, none⟩ (.int .u64 (R j).now)) := (Only.refl _ _).setCell (by simp [RLay.blocks]) _
      generalize hw1 : w.setCell ⟨L.gb, j * 5, none⟩ (.int .u64 (R j).now) = w1 at hR1 o1
      have c1 := hR1.c0
      rw [e] at c1
      have cl1 := hR1.cell j 3 hj (by omega)
      have fl1 := hR1.cellFz (Nat.zero_lt_of_lt hj) (j * 5 + 3)
      have hR2 := hR1.set j 3 { R j with sure := (R j).now, loose := false } hj (by omega) (by rw [updR_same]; exact fld5 (fun _ => rfl) (fun _ => rfl) (fun _ => rfl) (fun h => absurd rfl h) (fun _ => rfl))
      have hR3 := hR2.set j 4 { R j with sure := (R j).now, loose := false, goes := false } hj (by omega) (by rw [updR_same]; exact fld5 (fun _ => rfl) (fun _ => rfl) (fun _ => rfl) (fun _ => rfl) (fun h => absurd rfl h))
      have c2 := hR2.c0
      rw [e] at c2
      have cl2 := hR2.cell j 4 hj (by omega)
      have fl2 := hR2.cellFz (Nat.zero_lt_of_lt hj) (j * 5 + 4)
      rw [updR_twice, updR_twice] at hR3
      simp only [fld, updR_same] at cl1 cl2 c2 fl2 hR2 hR3
      have e9 : (M.evict j).sure.length = M.sure.length := evict_len M j
      have e10 : (M.evict j).calls = M.calls := evict_calls M j
      have e11 : haltOf (M.evict j) = haltOf M := by unfold haltOf Mem.evict; rw [hl]
      have FIN : Hid (RefIs _ L (M.evict j)) := ⟨_, by rw [e9, e10, e11]; exact hR3.drew, words_evict hW j v hl hj, sound_evict hS j⟩
      clear hR1 hR2 hR3 hR hW hS e9 e10 e11
      go_enter Try.func38, Try.ntmps38
      go_wp2_with (first
        | (go_at_call 48; refine (there_ref L M j _ H).mono ?_; rintro e w' ⟨rfl, hw⟩; obtain rfl := hw.symm; rw [hh])
        | go_in)
      go_region
      all_goals
        go_wp2
        go_end0
        exact ⟨rfl, FIN.out, ((o1.setCell (by simp [RLay.blocks]) _).setCell (by simp [RLay.blocks]) _).drew⟩

end Go.Proofs.Ytoabgkkfhoiagaa
