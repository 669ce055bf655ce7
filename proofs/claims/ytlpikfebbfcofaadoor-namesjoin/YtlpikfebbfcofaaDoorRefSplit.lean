/- Contract of the document's Split, for every text of at most 2^20 bytes: as names.Split. -/
import Derived.Test.YtlpikfebbfcofaaDoorSplit
namespace Go.Proofs.YtlpikfebbfcofaaDoor
open Go.RowKit

theorem Tryd.info9 : (Tryd.prog.info? 9).map (fun i => (i.zero, i.size, i.bytes)) = some (some (.string ByteArray.empty), 1, 16) := by kernel_rfl

def vs (xs : List ByteArray) : List Value := xs.map Value.string
theorem vs_len (xs : List ByteArray) : (vs xs).length = xs.length := by simp [vs]
theorem vs_snoc (xs : List ByteArray) (x : ByteArray) : vs xs ++ [.string x] = vs (xs ++ [x]) := by simp [vs]

/-- An own row of texts, nil or not: a slice that holds them. -/
theorem own_texts {w : World} {base : Nat} {v : Value} {xs : List ByteArray} (h : w.ownsRow base 9 1 v xs.length (vs xs)) :
    ∃ a c, v = .slice a xs.length c ∧ xs.length ≤ c ∧ TAt w a xs := by
  have h' := h
  rcases h.2 with ⟨rfl, h0⟩ | ⟨B, cap, cur, rfl, _, _, hle, _⟩
  · refine ⟨none, 0, by rw [h0], by omega, .inl (List.length_eq_zero_iff.1 h0)⟩
  · refine ⟨_, cap, rfl, hle, .inr ⟨B, 0, rfl, (h'.lt B rfl).2, fun i hi => ?_⟩⟩
    rw [Nat.zero_add, h'.cellAt i (by omega), nth_eq _ _ hi]
    simp [vs, hi]

/-- the piece from f to k -/
theorem ls_cut (p : ByteArray) (f k : Nat) : ls (p.extract f k) = ((ls p).drop f).take (k - f) := by
  unfold ls; rw [Lib.extract_data]

/-- how far the cutting is: k bytes looked at, the next piece begins at f, 'done' are cut -/
structure Cut (p : ByteArray) (done : List ByteArray) (f k : Nat) : Prop where
  lo : 1 ≤ k
  fk : f ≤ k
  ks : k ≤ p.size
  one : 1 ≤ f
  dk : done.length ≤ k
  eq : lss done ++ pcs ((ls p).drop f) = pcs ((ls p).drop 1)
  no : ∀ b ∈ ((ls p).drop f).take (k - f), b ≠ 47

theorem ls_at (p : ByteArray) (k : Nat) (h : k < p.size) : (ls p)[k]'(by rw [ls_size]; exact h) = p[k] := rfl

theorem Cut.start (p : ByteArray) (h : 1 ≤ p.size) : Cut p [] 1 1 :=
  ⟨by omega, by omega, h, by omega, by simp, rfl, by simp⟩

theorem Cut.go {p : ByteArray} {done : List ByteArray} {f k : Nat} (h : Cut p done f k) (hk : k < p.size) (hb : ¬ p[k].toNat = 47) : Cut p done f (k + 1) := by
  obtain ⟨h1, h2, h3, h4, h5, h6, h7⟩ := h
  refine ⟨by omega, by omega, by omega, h4, by omega, h6, fun b hb' => ?_⟩
  have e : k + 1 - f = (k - f) + 1 := by omega
  rw [e, List.take_succ_eq_append_getElem (by rw [List.length_drop, ls_size]; omega), List.mem_append] at hb'
  rcases hb' with hb' | hb'
  · exact h7 b hb'
  · simp only [List.getElem_drop, List.mem_singleton] at hb'
    have e2 : f + (k - f) = k := by omega
    simp only [e2] at hb'
    intro e3
    apply hb
    rw [← ls_at p k hk, ← hb', e3]; rfl

theorem Cut.cut {p : ByteArray} {done : List ByteArray} {f k : Nat} (h : Cut p done f k) (hk : k < p.size) (hb : p[k].toNat = 47) : Cut p (done ++ [p.extract f k]) (k + 1) (k + 1) := by
  obtain ⟨h1, h2, h3, h4, h5, h6, h7⟩ := h
  refine ⟨by omega, by omega, by omega, by omega, by simp; omega, ?_, by simp⟩
  rw [← h6, lss_append, List.append_assoc]
  congr 1
  have e : (ls p).drop f = ((ls p).drop f).take (k - f) ++ 47 :: (ls p).drop (k + 1) := by
    conv => lhs; rw [← List.take_append_drop (k - f) ((ls p).drop f)]
    congr 1
    rw [List.drop_drop, show f + (k - f) = k by omega, List.drop_eq_getElem_cons (by rw [ls_size]; exact hk)]
    congr 1
    rw [ls_at p k hk]
    exact UInt8.toNat_inj.1 hb
  conv => rhs; rw [e]
  rw [pcs_cut _ _ h7, ← ls_cut]
  rfl

theorem Cut.last {p : ByteArray} {done : List ByteArray} {f : Nat} (h : Cut p done f p.size) : lss (done ++ [p.extract f p.size]) = pcs ((ls p).drop 1) := by
  obtain ⟨h1, h2, h3, h4, h5, h6, h7⟩ := h
  rw [← h6, lss_append]
  congr 1
  have e : ((ls p).drop f).take (p.size - f) = (ls p).drop f := List.take_of_length_le (by rw [List.length_drop, ls_size]; omega)
  rw [e] at h7
  rw [pcs_none _ h7]
  show [ls (p.extract f p.size)] = _
  rw [ls_cut, e]

/-- what the cutting holds at byte k -/
def CutAt (p : ByteArray) (done : List ByteArray) (f k : Nat) : Prop := Cut p done f k ∨ (k = p.size + 1 ∧ f = p.size + 1 ∧ done.length ≤ k ∧ lss done = pcs ((ls p).drop 1))

theorem refSplit_root (p : ByteArray) (w : World) (h : ls p = [47]) :
    Calls Tryd.prog 10 #[.string p] w fun e w' => e = .returned (.tuple #[.slice none 0 0, .int .i64 0]) ∧ w' = w := by
  have hz : p.size = 1 := by rw [← ls_size, h]; rfl
  have e1 := tl_eq' h
  clear h
  go_enter Tryd.func10, Tryd.ntmps10
  go_wp2
  go_loop [4, 5, 6] (fun l f i => l = .slice none 0 0 ∧ f = .int .i64 1 ∧ i = .int .i64 1) (fun _ _ _ => 0)
  case atStart => exact ⟨rfl, rfl, rfl⟩
  case round =>
    obtain ⟨rfl, rfl, rfl⟩ := hrel
    go_wp2_with (go_at_call 21; refine (refJoin_zero _ _ _).mono ?_; rintro e w' ⟨rfl, rfl⟩)
    go_ret2
    exact ⟨rfl, rfl⟩
theorem refSplit_none (p : ByteArray) (w : World) (h : p.size = 0) :
    Calls Tryd.prog 10 #[.string p] w fun e w' => e = .returned (.tuple #[.slice none 0 0, .int .i64 3]) ∧ w' = w := by
  obtain rfl : p = ⟨#[]⟩ := by
    apply ls_inj
    exact List.length_eq_zero_iff.1 (by rw [ls_size]; exact h)
  clear h
  go_enter Tryd.func10, Tryd.ntmps10
  go_wp2
  go_loop [4, 5, 6] (fun l f i => l = .slice none 0 0 ∧ f = .int .i64 1 ∧ i = .int .i64 1) (fun _ _ _ => 0)
  case atStart => exact ⟨rfl, rfl, rfl⟩
  case round =>
    obtain ⟨rfl, rfl, rfl⟩ := hrel
    go_wp2_with (go_at_call 21; refine (refJoin_zero _ _ _).mono ?_; rintro e w' ⟨rfl, rfl⟩)
    go_ret2
    exact ⟨rfl, rfl⟩

set_option maxHeartbeats 2000000 in
theorem refSplit_rest (p : ByteArray) (w : World) (h : p.size ≤ 1048576) (h0 : 1 ≤ p.size) (h2 : ¬ ls p = [47]) :
    Calls Tryd.prog 10 #[.string p] w fun e w' => Ans (Sp (ls p)) w e w' := by
  have E0 : Hid (Sp (ls p) = if Jn (lref (ls p)) = some (ls p) then some (lref (ls p)) else none) := Sp_lref (ls p)
  have E1 : Hid (lref (ls p) = pcs ((ls p).drop 1)) := by
    show lref (ls p) = _
    unfold lref
    rw [if_neg]
    rintro (e | e)
    · have := congrArg List.length e; rw [ls_size, List.length_nil] at this; omega
    · exact h2 e
  have HP : Hid (∀ x ∈ pcs ((ls p).drop 1), x.length ≤ p.size) := by
    intro x hx
    have := pcs_mem _ x hx
    rw [List.length_drop, ls_size] at this
    omega
  have e1 := tl_ne h2
  have e2 := tl_ne' h2
  have CS : Hid (Cut p [] 1 1) := Cut.start p h0
  have K1 : Hid (∀ done f k, Cut p done f k → ∀ hk : k < p.size, ¬ p[k].toNat = 47 → Cut p done f (k + 1)) := fun done f k hc hk hb => hc.go hk hb
  clear h2
  obtain ⟨S, hS⟩ : ∃ S, Sp (ls p) = S := ⟨_, rfl⟩
  rw [hS] at E0 ⊢
  clear hS
  obtain ⟨i0, hi, hz0, hz1, hz2⟩ := info_parts Tryd.info9
  go_enter Tryd.func10, Tryd.ntmps10
  go_wp2
  go_loopw [4, 5, 6] (fun v fv iv wr => ∃ (done : List ByteArray) (f k m : Nat), m = done.length ∧ 1 ≤ k ∧ k ≤ p.size + 1 ∧ m ≤ k ∧ f ≤ k ∧ iv = .int .i64 k ∧ fv = .int .i64 f ∧ wr.ownsRow w.heap.size 9 1 v m (vs done) ∧ Below w.heap.size w wr ∧ Hid (CutAt p done f k)) (fun _ _ i _ => p.size + 1 - (intOf i).toNat)
  case atStart => exact ⟨[], 1, 1, 0, rfl, by omega, by omega, by omega, by omega, rfl, rfl, World.ownsRow_nil _ _ _ _, Below.refl _ _, .inl CS.out⟩
  case round =>
    obtain ⟨done, f, k, m, hm, hk1, hk2, hmk, hfk, rfl, rfl, hown, hnx, HC⟩ := hrel
    have HM' : Hid (m = done.length) := hm
    clear hm
    by_cases hle : k ≤ p.size
    · have hcut : Hid (Cut p done f k) := by
        rcases HC.out with hc | hc
        · exact hc
        · omega
      have hle' : (k : Int) ≤ (p.size : Int) := by omega
      by_cases hlt : k < p.size
      · have hne : ((k : Int) == (p.size : Int)) = false := by simp; omega
        have hne' : ¬ (k : Int) = (p.size : Int) := by omega
        by_cases hb : p[k].toNat = 47
        · have hb' : (p[k].toNat : Int) = 47 := by omega
          have hn := hcut.out.cut hlt hb
          have HN : Hid (Cut p (done ++ [p.extract f k]) (k + 1) (k + 1)) := hn
          clear hn hb
          go_wp2_with (first
            | (at_builtin; refine wpList_append_own _ rfl _ _ 23 rfl w.heap.size 9 i0 (.string ByteArray.empty) 1 16 Tryd.underlying23 hi hz0 hz1 hz2 rfl (by decide) _ _ _ rfl (hown.alloc _) ⟨_, 0, none⟩ 1 1 [.string (p.extract f k)] rfl rfl ?c1 ?c2 ?c3 ?c4 ?c5 ?_))
          case c1 =>
            intro j u hj
            match j, hj with
            | 0, hj => simp at hj; subst hj; simp [Addr.add]
          case c2 => intro u hu; simp at hu; subst hu; rfl
          case c3 => unfold maxLen; omega
          case c4 => omega
          case c5 => have := hnx.size; simp; omega
          intro v' w1 hown' hgrow _
          rw [vs_snoc] at hown'
          have hnx1 : Below w.heap.size w w1 := (hnx.alloc hnx.size _).grown hgrow (by have := hnx.size; simp; omega) (fun j h => (hown.lt j h).1)
          clear hgrow hown
          go_wp2
          go_roundw
          case rel => exact ⟨done ++ [p.extract f k], k + 1, k + 1, m + 1, by rw [HM'.out]; simp, by omega, by omega, by omega, by omega, by go_num, by go_num, hown', hnx1, .inl HN.out⟩
          case measure => simp [intOf]; omega
        · have hb' : ((p[k].toNat : Int) == 47) = false := by simp; omega
          have hb'' : ¬ (p[k].toNat : Int) = 47 := by omega
          have HN : Hid (Cut p done f (k + 1)) := K1.out done f k hcut.out hlt hb
          clear hb
          go_wp2
          go_roundw
          case rel => exact ⟨done, f, k + 1, m, HM'.out, by omega, by omega, by omega, by omega, by go_num, rfl, hown, hnx, .inl HN.out⟩
          case measure => simp [intOf]; omega
      · obtain rfl : k = p.size := by omega
        have HN : Hid (lss (done ++ [p.extract f p.size]) = pcs ((ls p).drop 1)) := hcut.out.last
        go_wp2_with (first
          | (at_builtin; refine wpList_append_own _ rfl _ _ 23 rfl w.heap.size 9 i0 (.string ByteArray.empty) 1 16 Tryd.underlying23 hi hz0 hz1 hz2 rfl (by decide) _ _ _ rfl (hown.alloc _) ⟨_, 0, none⟩ 1 1 [.string (p.extract f p.size)] rfl rfl ?c1 ?c2 ?c3 ?c4 ?c5 ?_))
        case c1 =>
          intro j u hj
          match j, hj with
          | 0, hj => simp at hj; subst hj; simp [Addr.add]
        case c2 => intro u hu; simp at hu; subst hu; rfl
        case c3 => unfold maxLen; omega
        case c4 => omega
        case c5 => have := hnx.size; simp; omega
        intro v' w1 hown' hgrow _
        rw [vs_snoc] at hown'
        have hnx1 : Below w.heap.size w w1 := (hnx.alloc hnx.size _).grown hgrow (by have := hnx.size; simp; omega) (fun j h => (hown.lt j h).1)
        clear hgrow hown
        go_wp2
        go_roundw
        case rel => exact ⟨done ++ [p.extract f p.size], p.size + 1, p.size + 1, m + 1, by rw [HM'.out]; simp, by omega, by omega, by omega, by omega, by go_num, by go_num, hown', hnx1, .inr ⟨rfl, rfl, by rw [List.length_append, ← HM'.out]; simp; omega, HN.out⟩⟩
        case measure => simp [intOf]
    · have hend : Hid (lss done = pcs ((ls p).drop 1)) := by
        rcases HC.out with hc | hc
        · have := hc.ks; omega
        · exact hc.2.2.2
      have hml : m ≤ 1048577 := by omega
      have hz : Hid (∀ x ∈ done, x.size ≤ 140737488351232) := by
        intro x hx
        have := HP.out (ls x) (by rw [← hend.out]; exact List.mem_map_of_mem hx)
        rw [ls_size] at this; omega
      have e := HM'.out
      subst e
      obtain ⟨a, c, rfl, hac, hta⟩ := own_texts hown
      have RJ : Hid (Calls Tryd.prog 21 #[.slice a done.length c] wr fun e w' => e = .returned (jv (Jn (lss done))) ∧ w' = wr) := refJoin_any a c done wr hta (by omega) hz.out
      have HD : Hid (S = if Jn (lss done) = some (ls p) then some (lss done) else none) := by
        show S = _
        rw [E0.out, E1.out, hend.out]
      have HTA : Hid (TAt wr a done) := hta
      clear hta hown
      have hle' : ¬ (k : Int) ≤ (p.size : Int) := by omega
      obtain ⟨J, hJ⟩ : ∃ J, Jn (lss done) = J := ⟨_, rfl⟩
      rw [hJ] at RJ HD
      clear hJ
      go_wp2_with fail
      refine Calls.mono (Hid.out RJ) ?_
      rintro e w' ⟨rfl, rfl⟩
      cases J with
      | none =>
        have E : Hid (S = none) := by show S = none; rw [HD.out, if_neg (by simp)]
        simp only [jv]
        go_wp2
        go_ret2
        rw [E.out]
        exact ⟨rfl, hnx⟩
      | some q =>
        simp only [jv]
        by_cases hq : q = ls p
        · have E : Hid (S = some (lss done)) := by show S = _; rw [HD.out, if_pos (by rw [hq])]
          have hmk : mk q = p := by rw [hq, mk_ls]
          rw [hmk]
          clear hq hmk
          go_wp2
          go_ret2
          rw [E.out]
          refine ⟨a, c, ?_, ?_, ?_, hnx⟩
          · rw [mks_lss]; rfl
          · rw [mks_lss]; exact hac
          · rw [mks_lss]; exact HTA.out
        · have E : Hid (S = none) := by show S = none; rw [HD.out, if_neg (by intro e; exact hq (Option.some.inj e))]
          have n1 : ¬ (mk q).toList = p.toList := by rw [ByteArray.toList_eq, ByteArray.toList_eq]; exact hq
          have n2 : ((mk q).toList == p.toList) = false := by simpa using n1
          obtain ⟨T, hT⟩ : ∃ T, mk q = T := ⟨_, rfl⟩
          rw [hT] at n1 n2 ⊢
          clear hT hq
          go_wp2
          go_ret2
          rw [E.out]
          exact ⟨rfl, hnx⟩

theorem refSplit_any (p : ByteArray) (w : World) (hs : p.size ≤ 1048576) :
    Calls Tryd.prog 10 #[.string p] w fun e w' => Ans (Sp (ls p)) w e w' := by
  by_cases h0 : p.size = 0
  · have e : ls p = [] := List.length_eq_zero_iff.1 (by rw [ls_size]; exact h0)
    rw [e]
    exact (refSplit_none p w h0).mono fun e w' ⟨he, hw⟩ => ⟨he, hw ▸ Below.refl _ _⟩
  · by_cases h2 : ls p = [47]
    · rw [Sp_root p h2]
      exact (refSplit_root p w h2).mono fun e w' ⟨he, hw⟩ => ⟨none, 0, he, Nat.le_refl _, .inl rfl, hw ▸ Below.refl _ _⟩
    · exact refSplit_rest p w hs (by omega) h2
end Go.Proofs.YtlpikfebbfcofaaDoor
