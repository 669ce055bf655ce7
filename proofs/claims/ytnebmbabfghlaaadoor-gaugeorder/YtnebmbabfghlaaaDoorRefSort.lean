/- Contract of the document's Sort, for every list. -/
import Derived.Test.YtnebmbabfghlaaaDoorSortedMath
import Derived.Deep.RegionLaw
import Derived.Deep.RegionHeld3
import Derived.Deep.AppendLies
import Derived.Laws.OwnMore
namespace Go.Proofs.YtnebmbabfghlaaaDoor
open Go.RowKit

/-- append to a row of the call's own, as one step of a region that draws. -/
theorem step_append_own {P : Program} {w : World} {ops : Array Oper} {o : Oper} {a : Act} {K : Act → World → Prop} {Q : Exit → Act → World → Prop} {E : Prop} (hgd : o.guard = none) (s x : Operand) (t : TypeId)
    (ho : o.op = .call { callee := .builtin .append, args := #[s, x], argTypes := #[t, t] })
    (base : Nat) (e : TypeId) (i : TypeInfo) (z : Value) (size bytes : Nat) (ht : P.underlying t = some (.slice e)) (hi : P.info? e = some i) (hz : i.zero = some z)
    (hsize : i.size = size) (hby : i.bytes = bytes) (hzs : z.cells.size = size) (hsz : 0 < size)
    (v : Value) (n : Nat) (xs : List Value) (hs : a.eval s = v) (hown : w.ownsRow base e size v n xs)
    (ad : Addr) (m c : Nat) (news : List Value) (hx : a.eval x = .slice (some ad) m c) (hl : news.length = m * size) (hnews : ∀ j u, news[j]? = some u → w.cell? (ad.add j) = some u) (h1 : ∀ u ∈ news, u.oneCell' = true)
    (h63 : n + m ≤ maxLen) (hbytes : (n + m) * bytes ≤ 140737488355328) (hbase : base ≤ w.heap.size)
    (h : ∀ v' w', w'.ownsRow base e size v' (n + m) (xs ++ news) → w.grownBy w' v.ownBlock → (v' = .slice none 0 0 ↔ v = .slice none 0 0 ∧ m = 0) → K (a.put o.dst v') w') :
    if Region.wanted o (yielded ops a.tmps) = true then Oper.wp P o a w K Q else E := by
  have hw : Region.wanted o (yielded ops a.tmps) = true := by simp [Region.wanted, hgd]
  rw [if_pos hw]
  exact wp_append_own w s x t ho base e i z size bytes ht hi hz hsize hby hzs hsz v n xs hs hown ad m c news hx hl hnews h1 h63 hbytes hbase h
theorem step_append_none {P : Program} {w : World} {ops : Array Oper} {o : Oper} {a : Act} {K : Act → World → Prop} {Q : Exit → Act → World → Prop} {E : Prop} (hgd : o.guard = none) (s x : Operand) (t : TypeId)
    (ho : o.op = .call { callee := .builtin .append, args := #[s, x], argTypes := #[t, t] })
    (base : Nat) (e : TypeId) (i : TypeInfo) (size : Nat) (ht : P.underlying t = some (.slice e)) (hi : P.info? e = some i)
    (v : Value) (n : Nat) (xs : List Value) (hs : a.eval s = v) (hown : w.ownsRow base e size v n xs) (hx : a.eval x = .slice none 0 0)
    (h : K (a.put o.dst v) w) : if Region.wanted o (yielded ops a.tmps) = true then Oper.wp P o a w K Q else E := by
  have hw : Region.wanted o (yielded ops a.tmps) = true := by simp [Region.wanted, hgd]
  rw [if_pos hw]
  have hrun := run_append_owned_none (P := P) (w := w) base t o.type e i size ht hi v n xs hown
  unfold Oper.wp
  simp [execOp, ho, resolve, invoke, builtin, hs, hx, hrun, Result.andThen]
  exact h

theorem own_base {w : World} {b c : Nat} {e : TypeId} {size : Nat} {v : Value} {n : Nat} {xs : List Value} (h : w.ownsRow b e size v n xs) (hc : c ≤ b) : w.ownsRow c e size v n xs := by
  refine ⟨h.1, ?_⟩
  rcases h.2 with h2 | ⟨g, cap, cur, h1, h2, h3⟩
  · exact .inl h2
  · exact .inr ⟨g, cap, cur, h1, by omega, h3⟩

/-- x put into a list, at k. -/
def put (zs : List Nat) (x k : Nat) : List Nat := zs.take k ++ x :: zs.drop k
theorem put_len (zs : List Nat) (x k : Nat) (h : k ≤ zs.length) : (put zs x k).length = zs.length + 1 := by
  unfold put; simp; omega
theorem put_perm (zs : List Nat) (x k : Nat) : List.Perm (put zs x k) (x :: zs) := by
  unfold put
  have h := List.perm_middle (a := x) (l₁ := zs.take k) (l₂ := zs.drop k)
  rw [List.take_append_drop] at h
  exact h
theorem put_at (zs : List Nat) (x k j : Nat) (h : k ≤ zs.length) : nth (put zs x k) j = if j < k then nth zs j else if j = k then x else nth zs (j - 1) := by
  unfold put nth
  by_cases c1 : j < k
  · rw [if_pos c1]
    simp only [List.getD_eq_getElem?_getD]
    rw [List.getElem?_append_left (by rw [List.length_take]; omega), List.getElem?_take_of_lt c1]
  · rw [if_neg c1]
    simp only [List.getD_eq_getElem?_getD]
    rw [List.getElem?_append_right (by rw [List.length_take]; omega), List.length_take, Nat.min_eq_left h]
    by_cases c2 : j = k
    · rw [if_pos c2, c2, Nat.sub_self]; rfl
    · rw [if_neg c2]
      have e : j - k = (j - k - 1) + 1 := by omega
      rw [e, List.getElem?_cons_succ, List.getElem?_drop]
      congr 2; omega
theorem put_up (zs : List Nat) (x k : Nat) (hu : Up zs) (hk : k ≤ zs.length) (h1 : k = 0 ∨ ¬ K x < K (nth zs (k - 1))) (h2 : ∀ j, k ≤ j → j < zs.length → K x < K (nth zs j)) : Up (put zs x k) := by
  intro i j hij hj
  rw [put_len _ _ _ hk] at hj
  rw [put_at _ _ _ _ hk, put_at _ _ _ _ hk]
  by_cases a1 : j < k
  · rw [if_pos (by omega), if_pos a1]; exact hu i j hij (by omega)
  · rw [if_neg a1]
    by_cases a2 : j = k
    · rw [if_pos a2]
      by_cases a3 : i < k
      · rw [if_pos a3]
        have := hu i (k - 1) (by omega) (by omega)
        omega
      · rw [if_neg a3, if_pos (by omega)]; exact Int.le_refl _
    · rw [if_neg a2]
      by_cases a3 : i < k
      · rw [if_pos a3]; exact hu i (j - 1) (by omega) (by omega)
      · rw [if_neg a3]
        by_cases a4 : i = k
        · rw [if_pos a4]; have := h2 (j - 1) (by omega) (by omega); omega
        · rw [if_neg a4]; exact hu (i - 1) (j - 1) (by omega) (by omega)

def fRow (zs : List Nat) : List Value := zs.map fun z => Value.float .f64 z
theorem fRow_put (zs : List Nat) (x k : Nat) : (fRow (zs.take k) ++ [.float .f64 x]) ++ fRow (zs.drop k) = fRow (put zs x k) := by
  simp [fRow, put]
theorem fRow_one (zs : List Nat) : ∀ u ∈ fRow zs, u.oneCell' = true := by
  intro u hu
  obtain ⟨z, _, rfl⟩ := List.mem_map.1 hu
  rfl
theorem fRow_at (zs : List Nat) (j : Nat) (h : j < zs.length) : (fRow zs)[j]? = some (.float .f64 (nth zs j)) := by simp [fRow, nth, List.getD, h]

theorem add_off (g o j : Nat) : (⟨g, o, none⟩ : Addr).add j = ⟨g, o + j, none⟩ := by
  unfold Addr.add
  by_cases e : j = 0 <;> simp [e]
theorem row_cell {wz W : World} {base g i c : Nat} {zs : List Nat} (ho : wz.ownsRow base 23 1 (.slice (some ⟨g, 0, none⟩) i c) i (fRow zs)) (hW : Below wz.heap.size wz W) (hg : g < wz.heap.size) (hz : zs.length = i) (j : Nat) (hj : j < i) : W.cell? ⟨g, j, none⟩ = some (.float .f64 (nth zs j)) := by
  refine (hW.cell (p := ⟨g, j, none⟩) hg).trans ?_
  rw [ho.cellAt j (by omega), fRow_at _ _ (by omega)]
theorem news_take {wz W : World} {base g i c k : Nat} {zs : List Nat} (ho : wz.ownsRow base 23 1 (.slice (some ⟨g, 0, none⟩) i c) i (fRow zs)) (hW : Below wz.heap.size wz W) (hg : g < wz.heap.size) (hz : zs.length = i) (j : Nat) (u : Value) (hj : (fRow (zs.take k))[j]? = some u) : W.cell? ((⟨g, 0, none⟩ : Addr).add j) = some u := by
  have hjl : j < (zs.take k).length := by
    have := (List.getElem?_eq_some_iff.1 hj).1
    simpa [fRow] using this
  rw [fRow_at _ _ hjl] at hj
  rw [List.length_take] at hjl
  rw [add_off, Nat.zero_add, row_cell ho hW hg hz j (by omega)]
  rw [← hj]
  congr 2
  have h2 : j < k := by omega
  simp [nth, h2]
theorem news_drop {wz W : World} {base g i c k : Nat} {zs : List Nat} (ho : wz.ownsRow base 23 1 (.slice (some ⟨g, 0, none⟩) i c) i (fRow zs)) (hW : Below wz.heap.size wz W) (hg : g < wz.heap.size) (hz : zs.length = i) (j : Nat) (u : Value) (hj : (fRow (zs.drop k))[j]? = some u) : W.cell? ((⟨g, k, none⟩ : Addr).add j) = some u := by
  have hjl : j < (zs.drop k).length := by
    have := (List.getElem?_eq_some_iff.1 hj).1
    simpa [fRow] using this
  rw [fRow_at _ _ hjl] at hj
  rw [List.length_drop] at hjl
  rw [add_off, row_cell ho hW hg hz (k + j) (by omega)]
  rw [← hj]
  congr 2
  simp [nth]
theorem one_news {w : World} {b : Nat} {v : Value} (h : w.cell? ⟨b, 0, none⟩ = some v) : ∀ j u, [v][j]? = some u → w.cell? ((⟨b, 0, none⟩ : Addr).add j) = some u := by
  intro j u hj
  match j, hj with
  | 0, hj => simp at hj; subst hj; simpa [Addr.add] using h

set_option maxRecDepth 20000 in
set_option maxHeartbeats 8000000 in
theorem refSort_any (a : Option Addr) (cap : Nat) (xs : List Nat) (w : World) (h : FAt w a xs) :
    Calls Tryd.prog 22 #[.slice a xs.length cap] w fun e w' => ∃ v' zs, e = .returned v' ∧ w'.ownsRow w.heap.size 23 1 v' xs.length (fRow zs) ∧ zs.length = xs.length ∧ Up zs ∧ List.Perm zs xs ∧ Below w.heap.size w w' := by
  obtain ⟨i0, hi, hz0, hz1, hz2⟩ := info_parts info23
  have H : Hid (FAt w a xs) := h
  have hl := h.1
  clear h
  generalize hn : xs.length = n at *
  have HN : Hid (xs.length = n) := hn
  clear hn
  go_enter Tryd.func22, Tryd.ntmps22
  go_wp2
  go_loopg [3, 4, 5] n (fun q v x _ wr => ∃ (i : Nat) (zs : List Nat), i + q = n ∧ x = .int .i64 i ∧ zs.length = i ∧ Aside (wr.ownsRow w.heap.size 23 1 v i (fRow zs)) ∧ Aside (Up zs) ∧ Aside (List.Perm zs (xs.take i)) ∧ (i = 0 ∧ v = .slice none 0 0 ∨ 0 < i ∧ ∃ g c, v = .slice (some ⟨g, 0, none⟩) i c ∧ i ≤ c ∧ g < wr.heap.size) ∧ Below w.heap.size w wr)
  case atStart => exact ⟨0, [], by omega, rfl, rfl, World.ownsRow_nil _ _ _ _, fun i j _ h => by simp at h, List.Perm.nil, .inl ⟨rfl, rfl⟩, Below.refl _ _⟩
  case round =>
    obtain ⟨i, zs, hq, rfl, hzl, hown, hup, hpm, hv, hb⟩ := hrel
    cases gk with
    | zero =>
      obtain rfl : i = n := by omega
      have HX : Hid (List.Perm zs xs) := by have := hpm.out; rw [List.take_of_length_le (by rw [HN.out]; exact Nat.le_refl _)] at this; exact this
      have HR : Hid (wr.ownsRow w.heap.size 23 1 u3 i (fRow zs)) := hown.out
      clear hown hv hpm
      go_wp2
      go_ret
      exact ⟨_, zs, rfl, HR.out, hzl, hup.out, HX.out, hb⟩
    | succ q =>
      have hin : i < n := by omega
      have hini : (i : Int) < (n : Int) := by omega
      obtain ⟨ba, oa, rfl, hba, hca⟩ := H.out.at_ (by rw [HN.out]; omega)
      have hcx : ∀ W, Below w.heap.size w W → W.cell? ⟨ba, oa + i, none⟩ = some (.float .f64 (nth xs i)) := fun W hW => (hW.cell (p := ⟨ba, oa + i, none⟩) hba).trans (hca i (by rw [HN.out]; exact hin))
      have HCX : Hid (∀ W, Below w.heap.size w W → W.cell? ⟨ba, oa + i, none⟩ = some (.float .f64 (nth xs i))) := hcx
      clear hca hcx
      rcases hv with ⟨rfl, rfl⟩ | ⟨h0, g, c, rfl, hic, hgl⟩
      · have HQ : Hid (0 + (q + 1) = n) := hq
        have hzn : zs = [] := List.eq_nil_of_length_eq_zero hzl
        clear hq hown
        go_wp2
        go_loopg [5] 0 (fun _ y wy => y = .int .i64 0 ∧ wy = wr)
        case atStart => exact ⟨rfl, rfl⟩
        case round =>
          obtain ⟨rfl, rfl⟩ := hrel
          have cx : wr.cell? ⟨ba, oa, none⟩ = some (.float .f64 (nth xs 0)) := HCX.out wr hb
          have hd : decide ((0 : Int) > 0) = false := rfl
          go_wp2
          go_quiet ((go_at_call 45; exact Calls.quiet_of_same (refAhead_any _ _ _)))
          go_wp2
          have hbq := below_drewN hb nq
          generalize wr.drewN nq = wz at hbq ⊢
          have cz : wz.cell? ⟨ba, oa, none⟩ = some (.float .f64 (nth xs 0)) := HCX.out wz hbq
          have hzs := hbq.size
          go_region_held3 (fun w' => w'.cell? ⟨ba, oa, none⟩ = some (.float .f64 (nth xs 0))) (first | go_keep | exact cz2)
            (first
              | (refine step_append_own rfl _ _ 22 rfl wz.heap.size 23 i0 (.float .f64 0) 1 8 Tryd.underlying22 hi hz0 hz1 hz2 rfl (by decide) (.slice none 0 0) 0 [] rfl (World.ownsRow_nil _ _ _ _) ⟨wz.heap.size, 0, none⟩ 1 1 [.float .f64 (nth xs 0)] rfl rfl (one_news (by simp)) (by intro u hu; simp at hu; subst hu; rfl) (by unfold maxLen; omega) (by omega) (by simp) ?_; intro v2 w2 ho2 hg2 _; have hB2 : Below wz.heap.size wz w2 := (((Below.refl _ _).drew).alloc (by simp) _).grown hg2 (by simp) (fun j h => by cases h); have cz2 : w2.cell? ⟨ba, oa, none⟩ = some (.float .f64 (nth xs 0)) := HCX.out w2 (hbq.trans (hB2.mono hzs)))
              | (refine step_append_none rfl _ _ 22 rfl wz.heap.size 23 i0 1 Tryd.underlying22 hi (.slice none 0 0) 0 [] rfl (World.ownsRow_nil _ _ _ _) rfl ?_)
              | (refine step_append_none rfl _ _ 22 rfl wz.heap.size 23 i0 1 Tryd.underlying22 hi v2 _ _ rfl ho2 rfl ?_))
          all_goals
            have HROW : Hid (w2.ownsRow w.heap.size 23 1 v2 (0 + 1) (fRow [nth xs 0])) := own_base ho2 hzs
            have hB : Below w.heap.size w w2 := hbq.trans (hB2.mono hzs)
            have HV3 : Hid (∃ g' c', v2 = .slice (some ⟨g', 0, none⟩) (0 + 1) c' ∧ 0 + 1 ≤ c' ∧ g' < w2.heap.size) := by
              rcases HROW.out.2 with ⟨_, e⟩ | ⟨g', c', cur, e, _, hgg, hcc, _⟩
              · omega
              · exact ⟨g', c', e, hcc, (HROW.out.lt g' (by rw [e]; rfl)).2⟩
            have HPM : Hid (List.Perm [nth xs 0] (xs.take (0 + 1))) := by
              rw [take_snoc xs 0 (by rw [HN.out]; exact hin)]
              exact List.Perm.refl _
            clear ho2 hg2 hB2 cz2
            go_wp2
            go_roundg q
            case measure => omega
            case rel => exact ⟨0 + 1, [nth xs 0], by have := HQ.out; omega, by first | rfl | go_num, rfl, HROW.out, fun i j h1 h2 => by (have e1 : j = 0 := by simp at h2; omega); (have e2 : i = 0 := by omega); rw [e1, e2]; exact Int.le_refl _, HPM.out, .inr ⟨by omega, HV3.out⟩, hB⟩
      · have HZL : Hid (zs.length = i) := hzl
        have HQ : Hid (i + (q + 1) = n) := hq
        clear hq hzl
        go_wp2
        go_loopg [5] i (fun r y wy => ∃ k : Nat, k = r ∧ k ≤ i ∧ y = .int .i64 k ∧ Aside (wy.ownsRow w.heap.size 23 1 (.slice (some ⟨g, 0, none⟩) i c) i (fRow zs)) ∧ Below w.heap.size w wy ∧ Aside (∀ j, k ≤ j → j < i → K (nth xs i) < K (nth zs j)) ∧ g < wy.heap.size)
        case atStart => exact ⟨i, rfl, Nat.le_refl _, rfl, hown, hb, fun j h1 h2 => by omega, hgl⟩
        case round =>
          clear hown hb hgl
          obtain ⟨k, hkr, hki, rfl, hown, hb, hgt, hgl⟩ := hrel
          have cx := HCX.out wr hb
          have HOW : Hid (wr.ownsRow w.heap.size 23 1 (.slice (some ⟨g, 0, none⟩) i c) i (fRow zs)) := hown.out
          clear hown
          -- the exit: k is the place
          have hc100 : c ≤ 9223372036854775807 := by
            rcases HOW.out.2 with ⟨e, _⟩ | ⟨_, _, _, e, _, _, _, hm, _⟩
            · cases e
            · cases e; unfold maxLen at hm; omega
          by_cases hk0 : k = 0
          · have HK0 : Hid (k = 0) := hk0
            have hd : decide (0 < k) = false := by simp; omega
            have hd2 : ¬ (0 : Int) < (k : Int) := by omega
            have HPUT : Hid (Up (put zs (nth xs i) k)) := put_up zs _ k hup.out (by rw [HZL.out]; exact hki) (.inl hk0) (fun j h1 h2 => hgt.out j h1 (by rw [HZL.out] at h2; exact h2))
            clear hk0 hkr hgt
            go_wp2
            go_quiet ((go_at_call 45; exact Calls.quiet_of_same (refAhead_any _ _ _)))
            go_wp2
            have hbq := below_drewN hb nq
            have HOq : Hid ((wr.drewN nq).ownsRow w.heap.size 23 1 (.slice (some ⟨g, 0, none⟩) i c) i (fRow zs)) := HOW.out
            have hglq : g < (wr.drewN nq).heap.size := hgl
            generalize wr.drewN nq = wz at hbq HOq hglq ⊢
            have cz := HCX.out wz hbq
            by_cases hck : c = k
            · have hik : i = k := by omega
              subst hck
              subst hik
              have HN1 : Hid (∀ W, Below wz.heap.size wz W → ∀ j u, (fRow (zs.take i))[j]? = some u → W.cell? ((⟨g, 0, none⟩ : Addr).add j) = some u) := fun W hW j u hj => news_take HOq.out hW hglq HZL.out j u hj
              have HN2 : Hid (∀ W, Below wz.heap.size wz W → ∀ j u, (fRow (zs.drop i))[j]? = some u → W.cell? ((⟨g, i, none⟩ : Addr).add j) = some u) := fun W hW j u hj => news_drop HOq.out hW hglq HZL.out j u hj
              have HL1 : Hid ((fRow (zs.take i)).length = i * 1) := by show _ = _; have := HZL.out; simp [fRow]; omega
              have HL2 : Hid ((fRow (zs.drop i)).length = (i - i) * 1) := by show _ = _; have := HZL.out; simp [fRow]; omega
              have hki2 : (i : Int) ≤ (i : Int) := by omega
              have hzs := hbq.size
              go_region_held3 (fun w' => w'.cell? ⟨ba, oa + i, none⟩ = some (.float .f64 (nth xs i))) (first | go_keep | exact cz3 | exact cz2 | exact cz1)
                (first
                  | (refine step_append_own rfl _ _ 22 rfl wz.heap.size 23 i0 (.float .f64 0) 1 8 Tryd.underlying22 hi hz0 hz1 hz2 rfl (by decide) (.slice none 0 0) 0 [] rfl (World.ownsRow_nil _ _ _ _) ⟨g, 0, none⟩ i i (fRow (zs.take i)) rfl HL1.out (HN1.out wz.drew (Below.refl _ _).drew) (fRow_one _) (by unfold maxLen; omega) (by omega) (by simp) ?_; intro v1 w1 ho1 hg1 _; have hB1 : Below wz.heap.size wz w1 := ((Below.refl _ _).drew).grown hg1 (by simp) (fun j h => by cases h); have cz1 := HCX.out w1 (hbq.trans (hB1.mono hzs)))
                  | (refine step_append_own rfl _ _ 22 rfl wz.heap.size 23 i0 (.float .f64 0) 1 8 Tryd.underlying22 hi hz0 hz1 hz2 rfl (by decide) (.slice none 0 0) 0 [] rfl (World.ownsRow_nil _ _ _ _) ⟨g, 0, none⟩ i i (fRow (zs.take i)) rfl HL1.out (HN1.out _ (((Below.refl _ _).drew).alloc (by simp) _)) (fRow_one _) (by unfold maxLen; omega) (by omega) (by simp) ?_; intro v1 w1 ho1 hg1 _; have hB1 : Below wz.heap.size wz w1 := (((Below.refl _ _).drew).alloc (by simp) _).grown hg1 (by simp) (fun j h => by cases h); have cz1 := HCX.out w1 (hbq.trans (hB1.mono hzs)); have S1 : w1.cell? ⟨wz.heap.size, 0, none⟩ = some (.float .f64 (nth xs i)) := (hg1.cell_far ⟨wz.heap.size, 0, none⟩ (by simp) (by simp [Value.ownBlock])).trans (by simp))
                  | (refine step_append_own rfl _ _ 22 rfl wz.heap.size 23 i0 (.float .f64 0) 1 8 Tryd.underlying22 hi hz0 hz1 hz2 rfl (by decide) v1 _ _ rfl ho1 ⟨wz.heap.size, 0, none⟩ 1 1 [.float .f64 (nth xs i)] rfl rfl (one_news S1) (by intro u hu; simp at hu; subst hu; rfl) (by unfold maxLen; omega) (by omega) hB1.size ?_; intro v2 w2 ho2 hg2 _; have hB2 : Below wz.heap.size wz w2 := hB1.grown hg2 hB1.size (fun j h => (ho1.lt j h).1); have cz2 := HCX.out w2 (hbq.trans (hB2.mono hzs)))
                  | (refine step_append_own rfl _ _ 22 rfl wz.heap.size 23 i0 (.float .f64 0) 1 8 Tryd.underlying22 hi hz0 hz1 hz2 rfl (by decide) v1 _ _ rfl (ho1.alloc _) ⟨w1.heap.size, 0, none⟩ 1 1 [.float .f64 (nth xs i)] rfl rfl (one_news (by simp)) (by intro u hu; simp at hu; subst hu; rfl) (by unfold maxLen; omega) (by omega) (by have := hB1.size; simp; omega) ?_; intro v2 w2 ho2 hg2 _; have hB2 : Below wz.heap.size wz w2 := (hB1.alloc hB1.size _).grown hg2 (by have := hB1.size; simp; omega) (fun j h => (ho1.lt j h).1); have cz2 := HCX.out w2 (hbq.trans (hB2.mono hzs)))
                  | (refine step_append_own rfl _ _ 22 rfl wz.heap.size 23 i0 (.float .f64 0) 1 8 Tryd.underlying22 hi hz0 hz1 hz2 rfl (by decide) v2 _ _ rfl ho2 ⟨g, 0, none⟩ 0 0 [] rfl rfl (fun j u hj => by simp at hj) (fun u hu => by simp at hu) (by unfold maxLen; omega) (by omega) hB2.size ?_; intro v3 w3 ho3 hg3 _; have hB3 : Below wz.heap.size wz w3 := hB2.grown hg3 hB2.size (fun j h => (ho2.lt j h).1); have cz3 := HCX.out w3 (hbq.trans (hB3.mono hzs))))
              all_goals
                have HROW : Hid (w3.ownsRow w.heap.size 23 1 v3 (i + 1) (fRow (put zs (nth xs i) i))) := by
                  have h3 := own_base ho3 hzs
                  have e1 : 0 + i + 1 + 0 = i + 1 := by omega
                  have e2 := fRow_put zs (nth xs i) i
                  have e3 : fRow (zs.drop i) = [] := by rw [List.drop_of_length_le (by rw [HZL.out]; exact Nat.le_refl _)]; rfl
                  rw [e3] at e2
                  rw [e1, List.nil_append, e2] at h3
                  exact h3
                have hB : Below w.heap.size w w3 := hbq.trans (hB3.mono hzs)
                have HV3 : Hid (∃ g' c', v3 = .slice (some ⟨g', 0, none⟩) (i + 1) c' ∧ i + 1 ≤ c' ∧ g' < w3.heap.size) := by
                  rcases HROW.out.2 with ⟨_, e⟩ | ⟨g', c', cur, e, _, hgg, hcc, _⟩
                  · omega
                  · exact ⟨g', c', e, hcc, (HROW.out.lt g' (by rw [e]; rfl)).2⟩
                have HPM : Hid (List.Perm (put zs (nth xs i) i) (xs.take (i + 1))) := by
                  have h4 := put_perm zs (nth xs i) i
                  have h5 := take_snoc xs i (by rw [HN.out]; exact hin)
                  rw [h5]
                  exact h4.trans ((List.Perm.cons _ hpm.out).trans (List.perm_append_singleton _ _).symm)
                have HPL : Hid ((put zs (nth xs i) i).length = i + 1) := by rw [put_len _ _ _ (by rw [HZL.out]; exact hki), HZL.out]; rfl
                clear ho1 ho2 ho3 hg1 hg2 hg3 hB1 hB2 hB3 cz1 cz2 cz3
                go_wp2
                go_roundg q
                case measure => omega
                case rel => exact ⟨i + 1, put zs (nth xs i) i, by have := HQ.out; omega, by go_num, HPL.out, HROW.out, HPUT.out, HPM.out, .inr ⟨by omega, HV3.out⟩, hB⟩
            · have HN1 : Hid (∀ W, Below wz.heap.size wz W → ∀ j u, (fRow (zs.take k))[j]? = some u → W.cell? ((⟨g, 0, none⟩ : Addr).add j) = some u) := fun W hW j u hj => news_take HOq.out hW hglq HZL.out j u hj
              have HN2 : Hid (∀ W, Below wz.heap.size wz W → ∀ j u, (fRow (zs.drop k))[j]? = some u → W.cell? ((⟨g, k, none⟩ : Addr).add j) = some u) := fun W hW j u hj => news_drop HOq.out hW hglq HZL.out j u hj
              have HL1 : Hid ((fRow (zs.take k)).length = k * 1) := by show _ = _; have := HZL.out; simp [fRow]; omega
              have HL2 : Hid ((fRow (zs.drop k)).length = (i - k) * 1) := by show _ = _; have := HZL.out; simp [fRow]; omega
              have hki2 : (k : Int) ≤ (i : Int) := by omega
              have hkc : (k : Int) ≤ (c : Int) := by omega
              have hzs := hbq.size
              go_region_held3 (fun w' => w'.cell? ⟨ba, oa + i, none⟩ = some (.float .f64 (nth xs i))) (first | go_keep | exact cz3 | exact cz2 | exact cz1)
                (first
                  | (refine step_append_own rfl _ _ 22 rfl wz.heap.size 23 i0 (.float .f64 0) 1 8 Tryd.underlying22 hi hz0 hz1 hz2 rfl (by decide) (.slice none 0 0) 0 [] rfl (World.ownsRow_nil _ _ _ _) ⟨g, 0, none⟩ k c (fRow (zs.take k)) rfl HL1.out (HN1.out wz.drew (Below.refl _ _).drew) (fRow_one _) (by unfold maxLen; omega) (by omega) (by simp) ?_; intro v1 w1 ho1 hg1 _; have hB1 : Below wz.heap.size wz w1 := ((Below.refl _ _).drew).grown hg1 (by simp) (fun j h => by cases h); have cz1 := HCX.out w1 (hbq.trans (hB1.mono hzs)))
                  | (refine step_append_own rfl _ _ 22 rfl wz.heap.size 23 i0 (.float .f64 0) 1 8 Tryd.underlying22 hi hz0 hz1 hz2 rfl (by decide) (.slice none 0 0) 0 [] rfl (World.ownsRow_nil _ _ _ _) ⟨g, 0, none⟩ k c (fRow (zs.take k)) rfl HL1.out (HN1.out _ (((Below.refl _ _).drew).alloc (by simp) _)) (fRow_one _) (by unfold maxLen; omega) (by omega) (by simp) ?_; intro v1 w1 ho1 hg1 _; have hB1 : Below wz.heap.size wz w1 := (((Below.refl _ _).drew).alloc (by simp) _).grown hg1 (by simp) (fun j h => by cases h); have cz1 := HCX.out w1 (hbq.trans (hB1.mono hzs)); have S1 : w1.cell? ⟨wz.heap.size, 0, none⟩ = some (.float .f64 (nth xs i)) := (hg1.cell_far ⟨wz.heap.size, 0, none⟩ (by simp) (by simp [Value.ownBlock])).trans (by simp))
                  | (refine step_append_own rfl _ _ 22 rfl wz.heap.size 23 i0 (.float .f64 0) 1 8 Tryd.underlying22 hi hz0 hz1 hz2 rfl (by decide) v1 _ _ rfl ho1 ⟨wz.heap.size, 0, none⟩ 1 1 [.float .f64 (nth xs i)] rfl rfl (one_news S1) (by intro u hu; simp at hu; subst hu; rfl) (by unfold maxLen; omega) (by omega) hB1.size ?_; intro v2 w2 ho2 hg2 _; have hB2 : Below wz.heap.size wz w2 := hB1.grown hg2 hB1.size (fun j h => (ho1.lt j h).1); have cz2 := HCX.out w2 (hbq.trans (hB2.mono hzs)))
                  | (refine step_append_own rfl _ _ 22 rfl wz.heap.size 23 i0 (.float .f64 0) 1 8 Tryd.underlying22 hi hz0 hz1 hz2 rfl (by decide) v1 _ _ rfl (ho1.alloc _) ⟨w1.heap.size, 0, none⟩ 1 1 [.float .f64 (nth xs i)] rfl rfl (one_news (by simp)) (by intro u hu; simp at hu; subst hu; rfl) (by unfold maxLen; omega) (by omega) (by have := hB1.size; simp; omega) ?_; intro v2 w2 ho2 hg2 _; have hB2 : Below wz.heap.size wz w2 := (hB1.alloc hB1.size _).grown hg2 (by have := hB1.size; simp; omega) (fun j h => (ho1.lt j h).1); have cz2 := HCX.out w2 (hbq.trans (hB2.mono hzs)))
                  | (refine step_append_own rfl _ _ 22 rfl wz.heap.size 23 i0 (.float .f64 0) 1 8 Tryd.underlying22 hi hz0 hz1 hz2 rfl (by decide) v2 _ _ rfl ho2 ⟨g, k, none⟩ (i - k) (c - k) (fRow (zs.drop k)) rfl HL2.out (HN2.out _ hB2) (fRow_one _) (by unfold maxLen; omega) (by omega) hB2.size ?_; intro v3 w3 ho3 hg3 _; have hB3 : Below wz.heap.size wz w3 := hB2.grown hg3 hB2.size (fun j h => (ho2.lt j h).1); have cz3 := HCX.out w3 (hbq.trans (hB3.mono hzs))))
              all_goals
                have HROW : Hid (w3.ownsRow w.heap.size 23 1 v3 (i + 1) (fRow (put zs (nth xs i) k))) := by
                  have h3 := own_base ho3 hzs
                  have e1 : 0 + k + 1 + (i - k) = i + 1 := by omega
                  rw [e1, List.nil_append, fRow_put] at h3
                  exact h3
                have hB : Below w.heap.size w w3 := hbq.trans (hB3.mono hzs)
                have HV3 : Hid (∃ g' c', v3 = .slice (some ⟨g', 0, none⟩) (i + 1) c' ∧ i + 1 ≤ c' ∧ g' < w3.heap.size) := by
                  rcases HROW.out.2 with ⟨_, e⟩ | ⟨g', c', cur, e, _, hgg, hcc, _⟩
                  · omega
                  · exact ⟨g', c', e, hcc, (HROW.out.lt g' (by rw [e]; rfl)).2⟩
                have HPM : Hid (List.Perm (put zs (nth xs i) k) (xs.take (i + 1))) := by
                  have h4 := put_perm zs (nth xs i) k
                  have h5 := take_snoc xs i (by rw [HN.out]; exact hin)
                  rw [h5]
                  exact h4.trans ((List.Perm.cons _ hpm.out).trans (List.perm_append_singleton _ _).symm)
                have HPL : Hid ((put zs (nth xs i) k).length = i + 1) := by rw [put_len _ _ _ (by rw [HZL.out]; exact hki), HZL.out]; rfl
                clear ho1 ho2 ho3 hg1 hg2 hg3 hB1 hB2 hB3 cz1 cz2 cz3
                go_wp2
                go_roundg q
                case measure => omega
                case rel => exact ⟨i + 1, put zs (nth xs i) k, by have := HQ.out; omega, by go_num, HPL.out, HROW.out, HPUT.out, HPM.out, .inr ⟨by omega, HV3.out⟩, hB⟩
          · obtain ⟨F, hF⟩ : ∃ F, F = k - 1 := ⟨_, rfl⟩
            have eF : (k : Int) - 1 = (F : Int) := by omega
            have lF : (F : Int) < (i : Int) := by omega
            have hd : decide (0 < k) = true := by simp; omega
            have hd1 : 0 < k := by omega
            have hd2 : (0 : Int) < (k : Int) := by omega
            have cF : wr.cell? ⟨g, F, none⟩ = some (.float .f64 (nth zs F)) := row_cell HOW.out (Below.refl _ _) hgl HZL.out F (by omega)
            cases gk with
            | zero => omega
            | succ r =>
              have HFF : Hid (F = k - 1 ∧ k = r + 1) := ⟨hF, hkr⟩
              clear hF hkr hk0
              cases hah : ah (nth xs i) (nth zs F) with
              | true =>
                have hk : K (nth xs i) < K (nth zs F) := by simpa [ah] using hah
                have HGT : Hid (∀ j, F ≤ j → j < i → K (nth xs i) < K (nth zs j)) := fun j h1 h2 => by
                  by_cases e : j = F
                  · rw [e]; exact hk
                  · exact hgt.out j (by have := HFF.out; omega) h2
                clear hgt hk
                go_wp2
                go_quiet ((go_at_call 45; exact Calls.quiet_of_same (refAhead_any _ _ _)))
                go_wp2
                go_roundg r
                case measure => omega
                case rel => exact ⟨F, by have := HFF.out; omega, by omega, by first | rfl | go_num, HOW.out, below_drewN hb _, HGT.out, hgl⟩
              | false =>
                have hk : ¬ K (nth xs i) < K (nth zs F) := by simpa [ah] using hah
                have HPUT : Hid (Up (put zs (nth xs i) k)) := put_up zs _ k hup.out (by rw [HZL.out]; exact hki) (.inr (by rw [← HFF.out.1]; exact hk)) (fun j h1 h2 => hgt.out j h1 (by rw [HZL.out] at h2; exact h2))
                clear hk hgt
                go_wp2
                go_quiet ((go_at_call 45; exact Calls.quiet_of_same (refAhead_any _ _ _)))
                go_wp2
                have hbq := below_drewN hb nq
                have HOq : Hid ((wr.drewN nq).ownsRow w.heap.size 23 1 (.slice (some ⟨g, 0, none⟩) i c) i (fRow zs)) := HOW.out
                have hglq : g < (wr.drewN nq).heap.size := hgl
                generalize wr.drewN nq = wz at hbq HOq hglq ⊢
                have cz := HCX.out wz hbq
                clear HFF eF lF cF
                by_cases hck : c = k
                · have hik : i = k := by omega
                  subst hck
                  subst hik
                  have HN1 : Hid (∀ W, Below wz.heap.size wz W → ∀ j u, (fRow (zs.take i))[j]? = some u → W.cell? ((⟨g, 0, none⟩ : Addr).add j) = some u) := fun W hW j u hj => news_take HOq.out hW hglq HZL.out j u hj
                  have HN2 : Hid (∀ W, Below wz.heap.size wz W → ∀ j u, (fRow (zs.drop i))[j]? = some u → W.cell? ((⟨g, i, none⟩ : Addr).add j) = some u) := fun W hW j u hj => news_drop HOq.out hW hglq HZL.out j u hj
                  have HL1 : Hid ((fRow (zs.take i)).length = i * 1) := by show _ = _; have := HZL.out; simp [fRow]; omega
                  have HL2 : Hid ((fRow (zs.drop i)).length = (i - i) * 1) := by show _ = _; have := HZL.out; simp [fRow]; omega
                  have hki2 : (i : Int) ≤ (i : Int) := by omega
                  have hzs := hbq.size
                  go_region_held3 (fun w' => w'.cell? ⟨ba, oa + i, none⟩ = some (.float .f64 (nth xs i))) (first | go_keep | exact cz3 | exact cz2 | exact cz1)
                    (first
                      | (refine step_append_own rfl _ _ 22 rfl wz.heap.size 23 i0 (.float .f64 0) 1 8 Tryd.underlying22 hi hz0 hz1 hz2 rfl (by decide) (.slice none 0 0) 0 [] rfl (World.ownsRow_nil _ _ _ _) ⟨g, 0, none⟩ i i (fRow (zs.take i)) rfl HL1.out (HN1.out wz.drew (Below.refl _ _).drew) (fRow_one _) (by unfold maxLen; omega) (by omega) (by simp) ?_; intro v1 w1 ho1 hg1 _; have hB1 : Below wz.heap.size wz w1 := ((Below.refl _ _).drew).grown hg1 (by simp) (fun j h => by cases h); have cz1 := HCX.out w1 (hbq.trans (hB1.mono hzs)))
                      | (refine step_append_own rfl _ _ 22 rfl wz.heap.size 23 i0 (.float .f64 0) 1 8 Tryd.underlying22 hi hz0 hz1 hz2 rfl (by decide) (.slice none 0 0) 0 [] rfl (World.ownsRow_nil _ _ _ _) ⟨g, 0, none⟩ i i (fRow (zs.take i)) rfl HL1.out (HN1.out _ (((Below.refl _ _).drew).alloc (by simp) _)) (fRow_one _) (by unfold maxLen; omega) (by omega) (by simp) ?_; intro v1 w1 ho1 hg1 _; have hB1 : Below wz.heap.size wz w1 := (((Below.refl _ _).drew).alloc (by simp) _).grown hg1 (by simp) (fun j h => by cases h); have cz1 := HCX.out w1 (hbq.trans (hB1.mono hzs)); have S1 : w1.cell? ⟨wz.heap.size, 0, none⟩ = some (.float .f64 (nth xs i)) := (hg1.cell_far ⟨wz.heap.size, 0, none⟩ (by simp) (by simp [Value.ownBlock])).trans (by simp))
                      | (refine step_append_own rfl _ _ 22 rfl wz.heap.size 23 i0 (.float .f64 0) 1 8 Tryd.underlying22 hi hz0 hz1 hz2 rfl (by decide) v1 _ _ rfl ho1 ⟨wz.heap.size, 0, none⟩ 1 1 [.float .f64 (nth xs i)] rfl rfl (one_news S1) (by intro u hu; simp at hu; subst hu; rfl) (by unfold maxLen; omega) (by omega) hB1.size ?_; intro v2 w2 ho2 hg2 _; have hB2 : Below wz.heap.size wz w2 := hB1.grown hg2 hB1.size (fun j h => (ho1.lt j h).1); have cz2 := HCX.out w2 (hbq.trans (hB2.mono hzs)))
                      | (refine step_append_own rfl _ _ 22 rfl wz.heap.size 23 i0 (.float .f64 0) 1 8 Tryd.underlying22 hi hz0 hz1 hz2 rfl (by decide) v1 _ _ rfl (ho1.alloc _) ⟨w1.heap.size, 0, none⟩ 1 1 [.float .f64 (nth xs i)] rfl rfl (one_news (by simp)) (by intro u hu; simp at hu; subst hu; rfl) (by unfold maxLen; omega) (by omega) (by have := hB1.size; simp; omega) ?_; intro v2 w2 ho2 hg2 _; have hB2 : Below wz.heap.size wz w2 := (hB1.alloc hB1.size _).grown hg2 (by have := hB1.size; simp; omega) (fun j h => (ho1.lt j h).1); have cz2 := HCX.out w2 (hbq.trans (hB2.mono hzs)))
                      | (refine step_append_own rfl _ _ 22 rfl wz.heap.size 23 i0 (.float .f64 0) 1 8 Tryd.underlying22 hi hz0 hz1 hz2 rfl (by decide) v2 _ _ rfl ho2 ⟨g, 0, none⟩ 0 0 [] rfl rfl (fun j u hj => by simp at hj) (fun u hu => by simp at hu) (by unfold maxLen; omega) (by omega) hB2.size ?_; intro v3 w3 ho3 hg3 _; have hB3 : Below wz.heap.size wz w3 := hB2.grown hg3 hB2.size (fun j h => (ho2.lt j h).1); have cz3 := HCX.out w3 (hbq.trans (hB3.mono hzs))))
                  all_goals
                    have HROW : Hid (w3.ownsRow w.heap.size 23 1 v3 (i + 1) (fRow (put zs (nth xs i) i))) := by
                      have h3 := own_base ho3 hzs
                      have e1 : 0 + i + 1 + 0 = i + 1 := by omega
                      have e2 := fRow_put zs (nth xs i) i
                      have e3 : fRow (zs.drop i) = [] := by rw [List.drop_of_length_le (by rw [HZL.out]; exact Nat.le_refl _)]; rfl
                      rw [e3] at e2
                      rw [e1, List.nil_append, e2] at h3
                      exact h3
                    have hB : Below w.heap.size w w3 := hbq.trans (hB3.mono hzs)
                    have HV3 : Hid (∃ g' c', v3 = .slice (some ⟨g', 0, none⟩) (i + 1) c' ∧ i + 1 ≤ c' ∧ g' < w3.heap.size) := by
                      rcases HROW.out.2 with ⟨_, e⟩ | ⟨g', c', cur, e, _, hgg, hcc, _⟩
                      · omega
                      · exact ⟨g', c', e, hcc, (HROW.out.lt g' (by rw [e]; rfl)).2⟩
                    have HPM : Hid (List.Perm (put zs (nth xs i) i) (xs.take (i + 1))) := by
                      have h4 := put_perm zs (nth xs i) i
                      have h5 := take_snoc xs i (by rw [HN.out]; exact hin)
                      rw [h5]
                      exact h4.trans ((List.Perm.cons _ hpm.out).trans (List.perm_append_singleton _ _).symm)
                    have HPL : Hid ((put zs (nth xs i) i).length = i + 1) := by rw [put_len _ _ _ (by rw [HZL.out]; exact hki), HZL.out]; rfl
                    clear ho1 ho2 ho3 hg1 hg2 hg3 hB1 hB2 hB3 cz1 cz2 cz3
                    go_wp2
                    go_roundg q
                    case measure => omega
                    case rel => exact ⟨i + 1, put zs (nth xs i) i, by have := HQ.out; omega, by go_num, HPL.out, HROW.out, HPUT.out, HPM.out, .inr ⟨by omega, HV3.out⟩, hB⟩
                · have HN1 : Hid (∀ W, Below wz.heap.size wz W → ∀ j u, (fRow (zs.take k))[j]? = some u → W.cell? ((⟨g, 0, none⟩ : Addr).add j) = some u) := fun W hW j u hj => news_take HOq.out hW hglq HZL.out j u hj
                  have HN2 : Hid (∀ W, Below wz.heap.size wz W → ∀ j u, (fRow (zs.drop k))[j]? = some u → W.cell? ((⟨g, k, none⟩ : Addr).add j) = some u) := fun W hW j u hj => news_drop HOq.out hW hglq HZL.out j u hj
                  have HL1 : Hid ((fRow (zs.take k)).length = k * 1) := by show _ = _; have := HZL.out; simp [fRow]; omega
                  have HL2 : Hid ((fRow (zs.drop k)).length = (i - k) * 1) := by show _ = _; have := HZL.out; simp [fRow]; omega
                  have hki2 : (k : Int) ≤ (i : Int) := by omega
                  have hkc : (k : Int) ≤ (c : Int) := by omega
                  have hzs := hbq.size
                  go_region_held3 (fun w' => w'.cell? ⟨ba, oa + i, none⟩ = some (.float .f64 (nth xs i))) (first | go_keep | exact cz3 | exact cz2 | exact cz1)
                    (first
                      | (refine step_append_own rfl _ _ 22 rfl wz.heap.size 23 i0 (.float .f64 0) 1 8 Tryd.underlying22 hi hz0 hz1 hz2 rfl (by decide) (.slice none 0 0) 0 [] rfl (World.ownsRow_nil _ _ _ _) ⟨g, 0, none⟩ k c (fRow (zs.take k)) rfl HL1.out (HN1.out wz.drew (Below.refl _ _).drew) (fRow_one _) (by unfold maxLen; omega) (by omega) (by simp) ?_; intro v1 w1 ho1 hg1 _; have hB1 : Below wz.heap.size wz w1 := ((Below.refl _ _).drew).grown hg1 (by simp) (fun j h => by cases h); have cz1 := HCX.out w1 (hbq.trans (hB1.mono hzs)))
                      | (refine step_append_own rfl _ _ 22 rfl wz.heap.size 23 i0 (.float .f64 0) 1 8 Tryd.underlying22 hi hz0 hz1 hz2 rfl (by decide) (.slice none 0 0) 0 [] rfl (World.ownsRow_nil _ _ _ _) ⟨g, 0, none⟩ k c (fRow (zs.take k)) rfl HL1.out (HN1.out _ (((Below.refl _ _).drew).alloc (by simp) _)) (fRow_one _) (by unfold maxLen; omega) (by omega) (by simp) ?_; intro v1 w1 ho1 hg1 _; have hB1 : Below wz.heap.size wz w1 := (((Below.refl _ _).drew).alloc (by simp) _).grown hg1 (by simp) (fun j h => by cases h); have cz1 := HCX.out w1 (hbq.trans (hB1.mono hzs)); have S1 : w1.cell? ⟨wz.heap.size, 0, none⟩ = some (.float .f64 (nth xs i)) := (hg1.cell_far ⟨wz.heap.size, 0, none⟩ (by simp) (by simp [Value.ownBlock])).trans (by simp))
                      | (refine step_append_own rfl _ _ 22 rfl wz.heap.size 23 i0 (.float .f64 0) 1 8 Tryd.underlying22 hi hz0 hz1 hz2 rfl (by decide) v1 _ _ rfl ho1 ⟨wz.heap.size, 0, none⟩ 1 1 [.float .f64 (nth xs i)] rfl rfl (one_news S1) (by intro u hu; simp at hu; subst hu; rfl) (by unfold maxLen; omega) (by omega) hB1.size ?_; intro v2 w2 ho2 hg2 _; have hB2 : Below wz.heap.size wz w2 := hB1.grown hg2 hB1.size (fun j h => (ho1.lt j h).1); have cz2 := HCX.out w2 (hbq.trans (hB2.mono hzs)))
                      | (refine step_append_own rfl _ _ 22 rfl wz.heap.size 23 i0 (.float .f64 0) 1 8 Tryd.underlying22 hi hz0 hz1 hz2 rfl (by decide) v1 _ _ rfl (ho1.alloc _) ⟨w1.heap.size, 0, none⟩ 1 1 [.float .f64 (nth xs i)] rfl rfl (one_news (by simp)) (by intro u hu; simp at hu; subst hu; rfl) (by unfold maxLen; omega) (by omega) (by have := hB1.size; simp; omega) ?_; intro v2 w2 ho2 hg2 _; have hB2 : Below wz.heap.size wz w2 := (hB1.alloc hB1.size _).grown hg2 (by have := hB1.size; simp; omega) (fun j h => (ho1.lt j h).1); have cz2 := HCX.out w2 (hbq.trans (hB2.mono hzs)))
                      | (refine step_append_own rfl _ _ 22 rfl wz.heap.size 23 i0 (.float .f64 0) 1 8 Tryd.underlying22 hi hz0 hz1 hz2 rfl (by decide) v2 _ _ rfl ho2 ⟨g, k, none⟩ (i - k) (c - k) (fRow (zs.drop k)) rfl HL2.out (HN2.out _ hB2) (fRow_one _) (by unfold maxLen; omega) (by omega) hB2.size ?_; intro v3 w3 ho3 hg3 _; have hB3 : Below wz.heap.size wz w3 := hB2.grown hg3 hB2.size (fun j h => (ho2.lt j h).1); have cz3 := HCX.out w3 (hbq.trans (hB3.mono hzs))))
                  all_goals
                    have HROW : Hid (w3.ownsRow w.heap.size 23 1 v3 (i + 1) (fRow (put zs (nth xs i) k))) := by
                      have h3 := own_base ho3 hzs
                      have e1 : 0 + k + 1 + (i - k) = i + 1 := by omega
                      rw [e1, List.nil_append, fRow_put] at h3
                      exact h3
                    have hB : Below w.heap.size w w3 := hbq.trans (hB3.mono hzs)
                    have HV3 : Hid (∃ g' c', v3 = .slice (some ⟨g', 0, none⟩) (i + 1) c' ∧ i + 1 ≤ c' ∧ g' < w3.heap.size) := by
                      rcases HROW.out.2 with ⟨_, e⟩ | ⟨g', c', cur, e, _, hgg, hcc, _⟩
                      · omega
                      · exact ⟨g', c', e, hcc, (HROW.out.lt g' (by rw [e]; rfl)).2⟩
                    have HPM : Hid (List.Perm (put zs (nth xs i) k) (xs.take (i + 1))) := by
                      have h4 := put_perm zs (nth xs i) k
                      have h5 := take_snoc xs i (by rw [HN.out]; exact hin)
                      rw [h5]
                      exact h4.trans ((List.Perm.cons _ hpm.out).trans (List.perm_append_singleton _ _).symm)
                    have HPL : Hid ((put zs (nth xs i) k).length = i + 1) := by rw [put_len _ _ _ (by rw [HZL.out]; exact hki), HZL.out]; rfl
                    clear ho1 ho2 ho3 hg1 hg2 hg3 hB1 hB2 hB3 cz1 cz2 cz3
                    go_wp2
                    go_roundg q
                    case measure => omega
                    case rel => exact ⟨i + 1, put zs (nth xs i) k, by have := HQ.out; omega, by go_num, HPL.out, HROW.out, HPUT.out, HPM.out, .inr ⟨by omega, HV3.out⟩, hB⟩
end Go.Proofs.YtnebmbabfghlaaaDoor
