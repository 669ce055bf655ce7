/- The walk of NamesJoin: for every two lists of texts it answers true. -/
import Derived.Test.YtlpikfebbfcofaaDoorLives
import Derived.Test.YtlpikfebbfcofaaDoorConcat
namespace Go.Proofs.YtlpikfebbfcofaaDoor.namesJoin
open Go.RowKit

theorem TAt.drop {w : World} {a : Option Addr} {xs ys : List ByteArray} (h : TAt w a (xs ++ ys)) (a' : Option Addr) (ha : ys = [] ∨ ∀ b o, a = some ⟨b, o, none⟩ → a' = some ⟨b, o + xs.length, none⟩) : TAt w a' ys := by
  rcases ha with ha | ha
  · exact .inl ha
  · rcases h with h | ⟨b, o, e, hlt, hc⟩
    · exact .inl (List.append_eq_nil_iff.1 h).2
    · refine .inr ⟨b, o + xs.length, ha b o e, hlt, fun i hi => ?_⟩
      have h1 : xs.length + i < (xs ++ ys).length := by rw [List.length_append]; omega
      rw [Nat.add_assoc, hc _ h1, nth_eq _ _ h1, nth_eq _ _ hi]
      congr 2
      rw [List.getElem_append_right (by omega)]
      simp
theorem TAt.init {w : World} {a : Option Addr} {xs ys : List ByteArray} (h : TAt w a (xs ++ ys)) : TAt w a xs := by
  have := TAt.take h xs.length
  rw [List.take_left] at this
  exact this

theorem add_none' (b o i : Nat) : (⟨b, o, none⟩ : Addr).add i = ⟨b, o + i, none⟩ := by
  unfold Addr.add
  by_cases e : i = 0 <;> simp [e]
theorem TAt.rest {w : World} {a : Option Addr} {xs ys : List ByteArray} {n : Nat} (h : TAt w a (xs ++ ys)) (hn : xs.length = n) : TAt w (Option.map (fun x => x.add n) a) ys :=
  TAt.drop h _ (.inr fun b o e => by subst e; subst hn; simp [add_none'])

theorem jv_form (o : Option (List UInt8)) : ∃ s i, jv o = .tuple #[.string s, .int .i64 i] := by
  cases o with
  | none => exact ⟨_, _, rfl⟩
  | some p => exact ⟨_, _, rfl⟩

theorem same_self (a1 a2 : Option Addr) (c1 c2 n m : Nat) (xs : List ByteArray) (w : World) (h1 : TAt w a1 xs) (h2 : TAt w a2 xs) (hn : xs.length ≤ 9223372036854775807) (e1 : n = xs.length) (e2 : m = xs.length) :
    Calls Tryd.prog 13 #[.slice a1 n c1, .slice a2 m c2] w fun e w' => e = .returned (.bool true) ∧ Below w.heap.size w w' := by
  subst e1; subst e2
  exact (same_any a1 a2 c1 c2 xs xs w h1 h2 hn).mono fun e w' ⟨he, m, hw⟩ => ⟨by rw [he]; simp, hw ▸ below_drew _ _⟩

set_option maxHeartbeats 4000000 in
theorem walk (a1 : Option Addr) (c1 : Nat) (xs : List ByteArray) (a2 : Option Addr) (c2 : Nat) (ys : List ByteArray) (w : World) (hm : HM w)
    (t1 : TAt w a1 xs) (l1 : xs.length ≤ c1) (b1 : c1 * 16 ≤ 140737488351232) (z1 : ∀ x ∈ xs, x.size ≤ 140737488351232)
    (t2 : TAt w a2 ys) (l2 : ys.length ≤ c2) (b2 : c2 * 16 ≤ 140737488351232) (_z2 : ∀ x ∈ ys, x.size ≤ 140737488351232) :
    Calls Tryd.prog 5 #[.slice a1 xs.length c1, .slice a2 ys.length c2] w fun e w' => e = .returned (.bool true) ∧ Below w.heap.size w w' := by
  have J1 : Hid (∀ w1, Below w.heap.size w w1 → Calls Tryd.prog 20 #[.slice a1 xs.length c1] w1 fun e w' => e = .returned (jv (Jn (lss xs))) ∧ Below w1.heap.size w1 w') := fun w1 hb => join_any a1 c1 xs w1 (TAt.below t1 hb (Nat.le_refl _)) (by omega) l1 z1
  have J2 : Hid (∀ w1, Below w.heap.size w w1 → Calls Tryd.prog 21 #[.slice a1 xs.length c1] w1 fun e w' => e = .returned (jv (Jn (lss xs))) ∧ w' = w1) := fun w1 hb => refJoin_any a1 c1 xs w1 (TAt.below t1 hb (Nat.le_refl _)) (by omega) z1
  have LD : Hid (∀ w1, Below w.heap.size w w1 → Calls Tryd.prog 22 #[.slice a1 xs.length c1, .slice a2 ys.length c2] w1 fun e w' => ∃ a c, e = .returned (.slice a (xs.length + ys.length) c) ∧ xs.length + ys.length ≤ c ∧ TAt w' a (xs ++ ys) ∧ Below w1.heap.size w1 w') := fun w1 hb => lead_any a1 a2 c1 c2 xs ys w1 (TAt.below t1 hb (Nat.le_refl _)) (TAt.below t2 hb (Nat.le_refl _)) (by omega) (by omega)
  have T1 : Hid (∀ w1, Below w.heap.size w w1 → TAt w1 a1 xs) := fun w1 hb => TAt.below t1 hb (Nat.le_refl _)
  have T2 : Hid (∀ w1, Below w.heap.size w w1 → TAt w1 a2 ys) := fun w1 hb => TAt.below t2 hb (Nat.le_refl _)
  have K1 : Hid (xs.length = xs.length) := rfl
  obtain ⟨n1, hn1⟩ : ∃ n, xs.length = n := ⟨_, rfl⟩
  obtain ⟨n2, hn2⟩ : ∃ n, ys.length = n := ⟨_, rfl⟩
  have N1 : Hid (xs.length = n1) := hn1
  have N2 : Hid (ys.length = n2) := hn2
  rw [hn1] at J1 J2 LD l1 ⊢
  rw [hn2] at LD l2 ⊢
  clear hn1 hn2 t1 t2 z1 _z2 K1
  cases hJ : Jn (lss xs) with
  | none =>
    rw [hJ] at J1 J2
    have S : Hid (∀ w, HM w → Calls Tryd.prog 9 #[.string ⟨#[]⟩] w fun e w' => e = .returned (.tuple #[.slice none 0 0, .int .i64 3]) ∧ Below w.heap.size w w') := fun w hm => nsplit_any ⟨#[]⟩ w hm (by decide)
    clear hJ
    go_enter Tryd.func5, Tryd.ntmps5
    go_wp2_with fail
    refine (lives_any _ hm).mono ?_
    rintro e w1 ⟨rfl, hb1⟩
    have hm1 := hm.below hb1
    go_wp2_with fail
    refine Calls.mono (Hid.out J1 _ hb1) ?_
    rintro e w2 ⟨rfl, hb2⟩
    have hb12 := below_chain hb1 hb2
    have hm2 := hm1.below hb2
    simp only [jv]
    go_wp2_with fail
    refine Calls.mono (Hid.out J2 _ hb12) ?_
    rintro e w3 ⟨rfl, rfl⟩
    simp only [jv]
    go_wp2_with fail
    refine Calls.mono (Hid.out S _ hm2) ?_
    rintro e w3 ⟨rfl, hb3⟩
    have hb13 := below_chain hb12 hb3
    go_wp2_with fail
    refine Calls.mono (Hid.out LD _ hb13) ?_
    rintro e w4 ⟨a, c, rfl, hc, ht, hb4⟩
    have hb14 := below_chain hb13 hb4
    go_wp2_with fail
    refine (same_self _ _ _ _ _ _ xs w4 (TAt.init ht) (T1.out _ hb14) (by have := N1.out; omega) N1.out.symm N1.out.symm).mono ?_
    rintro e w5 ⟨rfl, hb5⟩
    have hb15 := below_chain hb14 hb5
    have ht5 := TAt.below ht hb5 (Nat.le_refl _)
    go_wp2_with fail
    · refine (same_self _ _ _ _ _ _ ys w5 (TAt.drop ht5 _ (.inl (List.length_eq_zero_iff.1 (by have := N2.out; omega)))) (T2.out _ hb15) (by have := N2.out; omega) N2.out.symm N2.out.symm).mono ?_
      rintro e w6 ⟨rfl, hb6⟩
      go_wp2
      go_ret
      exact ⟨rfl, below_chain hb15 hb6⟩
    · refine (same_self _ _ _ _ _ _ ys w5 (TAt.rest ht5 N1.out) (T2.out _ hb15) (by have := N2.out; omega) N2.out.symm N2.out.symm).mono ?_
      rintro e w6 ⟨rfl, hb6⟩
      go_wp2
      go_ret
      exact ⟨rfl, below_chain hb15 hb6⟩
  | some p =>
    have hS := Sp_of_Jn hJ
    have hps : (mk p).size ≤ maxLen := by
      rw [← ls_size, ls_mk]
      have := Jn_of_Sp hS
      unfold Sp at hS
      split at hS
      · rename_i hc
        unfold maxLen; omega
      · cases hS
    rw [hJ] at J1 J2
    have S : Hid (∀ w, HM w → Calls Tryd.prog 9 #[.string (mk p)] w fun e w' => ∃ a c, e = .returned (.tuple #[.slice a n1 c, .int .i64 0]) ∧ TAt w' a xs ∧ Below w.heap.size w w') := by
      intro w hm
      have := nsplit_any (mk p) w hm hps
      rw [ls_mk, hS] at this
      refine this.mono ?_
      rintro e w' ⟨a, c, rfl, _, ht, hb⟩
      rw [mks_lss] at ht ⊢
      rw [N1.out]
      exact ⟨a, c, rfl, ht, hb⟩
    obtain ⟨P, hP⟩ : ∃ P, mk p = P := ⟨_, rfl⟩
    simp only [jv] at J1 J2
    rw [hP] at J1 J2 S
    clear hJ hS hps hP
    have rp : (P.toList == P.toList) = true := by simp
    go_enter Tryd.func5, Tryd.ntmps5
    go_wp2_with fail
    refine (lives_any _ hm).mono ?_
    rintro e w1 ⟨rfl, hb1⟩
    have hm1 := hm.below hb1
    go_wp2_with fail
    refine Calls.mono (Hid.out J1 _ hb1) ?_
    rintro e w2 ⟨rfl, hb2⟩
    have hb12 := below_chain hb1 hb2
    have hm2 := hm1.below hb2
    go_wp2_with fail
    refine Calls.mono (Hid.out J2 _ hb12) ?_
    rintro e w3 ⟨rfl, rfl⟩
    go_wp2_with fail
    refine Calls.mono (Hid.out S _ hm2) ?_
    rintro e w3 ⟨q, cq, rfl, htq, hb3⟩
    have hb13 := below_chain hb12 hb3
    go_wp2_with fail
    refine Calls.mono (Hid.out LD _ hb13) ?_
    rintro e w4 ⟨a, c, rfl, hc, ht, hb4⟩
    have hb14 := below_chain hb13 hb4
    go_wp2_with fail
    refine (same_self _ _ _ _ _ _ xs w4 (T1.out _ hb14) (TAt.below htq hb4 (Nat.le_refl _)) (by have := N1.out; omega) N1.out.symm N1.out.symm).mono ?_
    rintro e w4' ⟨rfl, hb4'⟩
    have hb14' := below_chain hb14 hb4'
    have ht4 := TAt.below ht hb4' (Nat.le_refl _)
    clear htq ht
    go_wp2_with fail
    refine (same_self _ _ _ _ _ _ xs w4' (TAt.init ht4) (T1.out _ hb14') (by have := N1.out; omega) N1.out.symm N1.out.symm).mono ?_
    rintro e w5 ⟨rfl, hb5⟩
    have hb15 := below_chain hb14' hb5
    have ht5 := TAt.below ht4 hb5 (Nat.le_refl _)
    go_wp2_with fail
    · refine (same_self _ _ _ _ _ _ ys w5 (TAt.drop ht5 _ (.inl (List.length_eq_zero_iff.1 (by have := N2.out; omega)))) (T2.out _ hb15) (by have := N2.out; omega) N2.out.symm N2.out.symm).mono ?_
      rintro e w6 ⟨rfl, hb6⟩
      go_wp2
      go_ret
      exact ⟨rfl, below_chain hb15 hb6⟩
    · refine (same_self _ _ _ _ _ _ ys w5 (TAt.rest ht5 N1.out) (T2.out _ hb15) (by have := N2.out; omega) N2.out.symm N2.out.symm).mono ?_
      rintro e w6 ⟨rfl, hb6⟩
      go_wp2
      go_ret
      exact ⟨rfl, below_chain hb15 hb6⟩
end Go.Proofs.YtlpikfebbfcofaaDoor.namesJoin
