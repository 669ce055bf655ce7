/- Contracts of the document's Made and Steps. -/
import Derived.Test.YtfalchacdebdpaaRefB
import Derived.Deep.RegionHeld3
namespace Go.Proofs.Ytfalchacdebdpaa
open Go.RowKit Go.Maps Go.ChangeMaps Go.Shelf

/-- append to a row of the call's own, as one step of a region that draws. -/
theorem step_append_own {P : Program} {w : World} {ops : Array Oper} {o : Oper} {a : Act} {K : Act → World → Prop} {Q : Exit → Act → World → Prop} {E : Prop} (hgd : o.guard = none) (s x : Operand) (t : TypeId)
    (ho : o.op = .call { callee := .builtin .append, args := #[s, x], argTypes := #[t, t] })
    (base : Nat) (e : TypeId) (i : TypeInfo) (z : Value) (size bytes : Nat) (ht : P.underlying t = some (.slice e)) (hi : P.info? e = some i) (hz : i.zero = some z)
    (hsize : i.size = size) (hby : i.bytes = bytes) (hzs : z.cells.size = size) (hsz : 0 < size)
    (v : Value) (n : Nat) (xs : List Value) (hs : a.eval s = v) (hown : w.ownsRow base e size v n xs)
    (ad : Addr) (m c : Nat) (news : List Value) (hx : a.eval x = .slice (some ad) m c) (hl : news.length = m * size) (hnews : ∀ j u, news[j]? = some u → w.cell? (ad.add j) = some u) (h1 : ∀ u ∈ news, u.oneCell' = true)
    (h63 : n + m ≤ maxLen) (hbytes : (n + m) * bytes ≤ 140737488355328) (hbase : base ≤ w.heap.size)
    (h : ∀ v' w', w'.ownsRow base e size v' (n + m) (xs ++ news) → w.grownBy w' v.ownBlock → (v' = .slice none 0 0 ↔ v = .slice none 0 0 ∧ m = 0) → K (a.put o.dst v') w') :
    if Region.wanted o (yielded ops a.tmps) = true then Oper.wp P o a w K Q else E := by
  have hw : Region.wanted o (yielded ops a.tmps) = true := by simp [Region.wanted, hgd]
  rw [if_pos hw]
  exact wp_append_own w s x t ho base e i z size bytes ht hi hz hsize hby hzs hsz v n xs hs hown ad m c news hx hl hnews h1 h63 hbytes hbase h

def placesTo (cs : List Chg) (k : Nat) : List Int := (List.range k).map fun i => (cs.getD i (0, 0)).1
theorem placesTo_succ (cs : List Chg) (k : Nat) : placesTo cs (k + 1) = placesTo cs k ++ [(cs.getD k (0, 0)).1] := by simp [placesTo, List.range_succ]
theorem placesTo_len (cs : List Chg) (k : Nat) : (placesTo cs k).length = k := by simp [placesTo]
theorem placesTo_all (cs : List Chg) : placesTo cs cs.length = cs.map (·.1) := by
  apply List.ext_getElem (by simp [placesTo])
  intro i h1 h2
  simp [placesTo] at h1
  simp [placesTo, h1]

theorem one_int {w : World} {B : Nat} {x : Value} {t : TypeId} (hB : w.heap.size = B) : ∀ (j : Nat) (u : Value), [x][j]? = some u → (w.alloc (.cells #[x] t)).cell? ((⟨B, 0, none⟩ : Addr).add j) = some u := by
  subst hB
  intro j u hj
  match j, hj with
  | 0, hj => simp at hj; subst hj; simp [Addr.add]

/-- A row of steps that lies in a block, as cells. -/
theorem ref_cells {w : World} {base g cap : Nat} {ss : List Stp} (h : OwnRef w base (.slice (some ⟨g, 0, none⟩) ss.length cap) ss) (j : Nat) (u : Value) (hj : (stpVals ss)[j]? = some u) : w.cell? ((⟨g, 0, none⟩ : Addr).add j) = some u := by
  have hl : j < (stpVals ss).length := by
    rcases Nat.lt_or_ge j (stpVals ss).length with h | h
    · exact h
    · rw [List.getElem?_eq_none h] at hj; cases hj
  rw [stpVals_len] at hl
  rw [add_none, Nat.zero_add, World.ownsRow.cellAt h j (by omega)]; exact hj
theorem OwnRef.app {w : World} {base : Nat} {v : Value} {a b : List Stp} (h : w.ownsRow base 35 3 v (a.length + b.length) (stpVals a ++ stpVals b)) : OwnRef w base v (a ++ b) := by
  unfold OwnRef
  rw [stpVals_append, List.length_append]; exact h

/-- append of a row of steps to another. -/
theorem wpList_refApp (w : World) {ops : Array Oper} {rest : List Oper} {o : Oper} {a : Act} {Q : Exit → Act → World → Prop} (hg : o.guard = none) (x y : Operand) (hop : o.op = Op.call { callee := Callee.builtin Builtin.append, args := #[x, y], argTypes := #[29, 29] })
    (base base2 : Nat) (vx vy : Value) (xs ys : List Stp) (hx : a.eval x = vx) (hy : a.eval y = vy) (h1 : OwnRef w base vx xs) (h2 : OwnRef w base2 vy ys) (hb : base ≤ w.heap.size) (hl : xs.length + ys.length ≤ 1000000)
    (hK : ∀ v w', OwnRef w' base v (xs ++ ys) → w.grownBy w' vx.ownBlock → wpList Try.prog ops Q rest (a.put o.dst v) w') :
    wpList Try.prog ops Q (o :: rest) a w := by
  obtain ⟨i0, hi, hz0, hz1, hz2⟩ := info_parts Try.info35
  rcases id h2.2 with ⟨rfl, h0⟩ | ⟨g, cap, cur, rfl, _⟩
  · have hys : ys = [] := List.length_eq_zero_iff.1 h0
    subst hys
    have hr := run_append_owned_none (P := Try.prog) w base 29 o.type 35 i0 3 Try.underlying29 hi vx xs.length (stpVals xs) h1
    refine Lib.wpList_append_run _ hg _ _ _ _ hop _ _ hx hy _ _ hr ?_
    refine hK _ _ (by rw [List.append_nil]; exact h1) ⟨rfl, rfl, rfl, Nat.le_refl _, fun _ _ _ => rfl⟩
  · refine wpList_append_own w hg _ _ 29 hop base 35 i0 _ 3 24 Try.underlying29 hi hz0 hz1 hz2 rfl (by decide) _ xs.length (stpVals xs) hx h1 ⟨g, 0, none⟩ ys.length cap (stpVals ys) hy (stpVals_len ys) (ref_cells h2) (stpVals_one' ys) (by unfold maxLen; omega) (by omega) hb ?_
    intro v' w1 hown hgrow _
    exact hK v' w1 (OwnRef.app hown) hgrow

theorem sure_status {f : Int} (hf : 0 ≤ f ∧ f < 2824) (h8 : f % 8 = 0) (v : Int) : sureP [(f, v)] = [⟨1, f, v⟩, ⟨2, f, 0⟩, ⟨3, 0, 0⟩] := by
  have hl : linesOf [f] = [f] := by
    refine rising_eq (linesOf_rising _) (by simp) fun x => ?_
    rw [linesOf_mem _ (by simpa using hf)]
    simp only [List.mem_singleton, exists_eq_left]
    constructor
    · rintro rfl; omega
    · rintro rfl; omega
  unfold sureP
  simp only [List.map_cons, List.map_nil]
  rw [hl]; rfl

set_option maxHeartbeats 4000000 in
set_option maxRecDepth 100000 in
theorem refMade_any (f : Int) (a : Option Addr) (cap : Nat) (cs : List Chg) (w : World) (h : ChgsAt w a cs) (hin : ∀ i, i < cs.length → 0 ≤ (cs.getD i (0, 0)).1 ∧ (cs.getD i (0, 0)).1 < 2824) (hlen : cs.length ≤ 1000) (hf : 0 ≤ f ∧ f < 2824) (h8 : f % 8 = 0) :
    Calls Try.prog 37 #[.int .i64 f, .slice a cs.length cap] w fun e w' => ∃ v, e = .returned v ∧ OwnRef w' w.heap.size v (makingP f cs) ∧ Below w.heap.size w w' := by
  obtain ⟨i0, hi, hz0, hz1, hz2⟩ := info_parts Try.info35
  obtain ⟨i3, hi3, hz30, hz31, hz32⟩ := info_parts Try.info3
  have H : Hid (ChgsAt w a cs) := h
  have HP : Hid (makingP f cs = storesTo cs cs.length ++ (linesOf (placesTo cs cs.length)).map (fun a => ⟨2, a, 0⟩) ++ [⟨3, 0, 0⟩] ++ [⟨1, f, 0⟩, ⟨2, f, 0⟩, ⟨3, 0, 0⟩]) := by
    show makingP f cs = _
    unfold makingP
    rw [sure_status hf h8, storesTo_all, placesTo_all]; rfl
  have hll := linesOf_len (placesTo cs cs.length)
  obtain ⟨n, hn'⟩ : ∃ n, cs.length = n := ⟨_, rfl⟩
  have HN : Hid (cs.length = n) := hn'
  rw [hn'] at hlen HP hll hin ⊢
  have HI : Hid (∀ i, i < (placesTo cs n).length → 0 ≤ (placesTo cs n).getD i 0 ∧ (placesTo cs n).getD i 0 < 2824) := fun i hi => by
    rw [placesTo_len] at hi
    have e : (placesTo cs n).getD i 0 = (cs.getD i (0, 0)).1 := by simp [placesTo, hi]
    rw [e]; exact hin i hi
  clear h hn' hin h8
  obtain ⟨hf0, hf1⟩ := hf
  go_enter Try.func37, Try.ntmps37
  go_wp2
  go_loopw [5, 6, 7] (fun v l i wr => ∃ k : Nat, k ≤ n ∧ i = .int .i64 k ∧ Hid (OwnRef wr w.heap.size v (storesTo cs k)) ∧ Hid (wr.ownsRow w.heap.size 3 1 l k ((placesTo cs k).map (Value.int .i64))) ∧ Hid (Below w.heap.size w wr)) (fun _ _ i _ => n - (intOf i).toNat)
  case atStart => exact ⟨0, Nat.zero_le _, rfl, World.ownsRow_nil _ _ _ _, World.ownsRow_nil _ _ _ _, Below.refl _ _⟩
  case round =>
    obtain ⟨k, hk, rfl, hown, hpl, hnx⟩ := hrel
    by_cases hlt : k < n
    · obtain ⟨b, o, rfl, hb, hc⟩ := H.out.resolve_left (fun e => by have := HN.out; rw [e] at this; simp at this; omega)
      have hkn : (k : Int) < (n : Int) := by omega
      have HC : Hid (∀ w2, Below w.heap.size w w2 → w2.cell? ⟨b, o + k * 2, none⟩ = some (.int .i64 (cs.getD k (0, 0)).1) ∧ w2.cell? ⟨b, o + k * 2 + 1, none⟩ = some (.int .u64 (cs.getD k (0, 0)).2)) := fun w2 h2 => ⟨(h2.cell (p := ⟨b, o + k * 2, none⟩) hb).trans (hc k (by rw [HN.out]; exact hlt)).1, (h2.cell (p := ⟨b, o + k * 2 + 1, none⟩) hb).trans (hc k (by rw [HN.out]; exact hlt)).2⟩
      have HS : Hid (storesTo cs (k + 1) = storesTo cs k ++ [⟨1, (cs.getD k (0, 0)).1, (cs.getD k (0, 0)).2⟩]) := storesTo_succ cs k
      have HPS : Hid (placesTo cs (k + 1) = placesTo cs k ++ [(cs.getD k (0, 0)).1]) := placesTo_succ cs k
      have hsl := storesTo_len cs k
      clear hc
      obtain ⟨X, hX⟩ : ∃ X, (cs.getD k (0, 0)).1 = X := ⟨_, rfl⟩
      obtain ⟨Y, hY⟩ : ∃ Y, (cs.getD k (0, 0)).2 = Y := ⟨_, rfl⟩
      rw [hX] at HC HS HPS
      rw [hY] at HC HS
      obtain ⟨x1, x2⟩ := HC.out wr hnx.out
      have hbs := hnx.out.size
      clear hX hY
      go_wp2
      go_region_held3 (fun v => v.cell? ⟨b, o + k * 2, none⟩ = some (.int .i64 X) ∧ v.cell? ⟨b, o + k * 2 + 1, none⟩ = some (.int .u64 Y)) (first | go_keep | exact ⟨z1, z2⟩)
        (first
          | (refine step_append_own rfl _ _ 29 rfl w.heap.size 35 i0 (.agg #[.int .i64 0, .int .i64 0, .int .u64 0]) 3 24 Try.underlying29 hi hz0 hz1 hz2 rfl (by decide) _ _ _ rfl (World.ownsRow.drew (World.ownsRow.alloc hown.out _)) ⟨wr.heap.size, 0, none⟩ 1 1 [.int .i64 1, .int .i64 X, .int .u64 Y] rfl rfl (fun j u hj => three_cells rfl j u hj) (by intro u hu; simp at hu; rcases hu with rfl | rfl | rfl <;> rfl) (by unfold maxLen; omega) (by omega) (by simp; omega) ?_; intro v2 w2 ho2 hg2 _; have hB2 : Below w.heap.size w w2 := ((hnx.out.alloc (by omega) _).drew).grown hg2 (by simp; omega) (fun j h => (World.ownsRow.lt hown.out j h).1); obtain ⟨z1, z2⟩ := HC.out w2 hB2)
          | go_keep)
      have hpl2 : Hid (w2.ownsRow w.heap.size 3 1 u6 k ((placesTo cs k).map (Value.int .i64))) := World.ownsRow.kept (World.ownsRow.drew (World.ownsRow.alloc hpl.out _)) hg2 (own_ne hpl.out hown.out (by decide))
      have hown2 : Hid (OwnRef w2 w.heap.size v2 (storesTo cs (k + 1))) := by show OwnRef w2 w.heap.size v2 (storesTo cs (k + 1)); rw [HS.out]; exact OwnRef.more ho2
      have HB2 : Hid (Below w.heap.size w w2) := hB2
      clear ho2 hg2 hB2 hown hpl hnx z2 x1 x2
      go_wp2_with (first
        | (at_builtin; refine wpList_append_own _ rfl _ _ 50 rfl w.heap.size 3 i3 (.int .i64 0) 1 8 Try.underlying50 hi3 hz30 hz31 hz32 rfl (by decide) _ _ _ rfl (World.ownsRow.alloc hpl2.out _) ⟨_, 0, none⟩ 1 1 [.int .i64 X] rfl rfl ?c1 ?c2 ?c3 ?c4 ?c5 ?_)
        | go_in)
      case c1 => exact one_int (by simp)
      case c2 => intro u hu; simp at hu; subst hu; rfl
      case c3 => unfold maxLen; omega
      case c4 => omega
      case c5 => have := HB2.out.size; simp; omega
      intro v3 w3 hp3 hg3 _
      have hnx3 : Hid (Below w.heap.size w w3) := (HB2.out.alloc HB2.out.size _).grown hg3 (by have := HB2.out.size; simp; omega) (fun j h => (World.ownsRow.lt hpl2.out j h).1)
      have hown3 : Hid (OwnRef w3 w.heap.size v2 (storesTo cs (k + 1))) := World.ownsRow.kept (World.ownsRow.alloc hown2.out _) hg3 (own_ne hown2.out hpl2.out (by decide))
      have hpl3 : Hid (w3.ownsRow w.heap.size 3 1 v3 (k + 1) ((placesTo cs (k + 1)).map (Value.int .i64))) := by show w3.ownsRow w.heap.size 3 1 v3 (k + 1) ((placesTo cs (k + 1)).map (Value.int .i64)); rw [HPS.out, List.map_append]; exact hp3
      clear hp3 hg3 hown2 hpl2
      go_wp2
      go_roundw
      case rel => exact ⟨k + 1, by omega, by go_num, hown3.out, hpl3.out, hnx3.out⟩
      case measure => simp [intOf]; omega
    · obtain rfl : k = n := by omega
      obtain ⟨hpn, pa, pc, rfl, hpi⟩ := ints_own hpl.out
      have hlr := refLines_any pa pc (placesTo cs k) wr hpi HI.out (by rw [hpn]; omega)
      rw [hpn] at hlr
      have HLR : Hid (Calls Try.prog 35 #[.slice pa k pc] wr fun e w' => ∃ v, e = .returned v ∧ OwnRef w' wr.heap.size v ((linesOf (placesTo cs k)).map fun a => ⟨2, a, 0⟩) ∧ Below wr.heap.size wr w') := hlr
      have hsl := storesTo_len cs k
      have HBW := hnx.out.size
      clear hlr hpi hpl hpn
      obtain ⟨LS, hLS⟩ : ∃ LS, linesOf (placesTo cs k) = LS := ⟨_, rfl⟩
      rw [hLS] at HLR HP hll
      clear hLS
      go_wp2_with (first
        | (go_at_call 35; refine Calls.mono (Hid.out HLR) ?_; rintro e w1 ⟨vl, rfl, hl1, b1⟩; have hs1 := b1.size; have hown1 := hown.out.later (Nat.le_refl _) b1)
        | (at_builtin; refine wpList_refApp _ rfl _ _ rfl w.heap.size wr.heap.size _ _ (storesTo cs k) (LS.map fun a => ⟨2, a, 0⟩) rfl rfl hown1 hl1 (by omega) (by rw [List.length_map]; omega) ?_)
        | fail)
      intro v2 w2 hown2 hg2
      have hnx2 : Below w.heap.size w w2 := (hnx.out.trans (b1.mono HBW)).grown hg2 (by omega) (fun j h => (World.ownsRow.lt hown1 j h).1)
      have HO2 : Hid (OwnRef w2 w.heap.size v2 (storesTo cs k ++ LS.map fun a => ⟨2, a, 0⟩)) := hown2
      have hl2 : (storesTo cs k ++ LS.map fun a => (⟨2, a, 0⟩ : Stp)).length = k + LS.length := by rw [List.length_append, List.length_map, hsl]
      obtain ⟨S2, hS2⟩ : ∃ S, storesTo cs k ++ LS.map (fun a => (⟨2, a, 0⟩ : Stp)) = S := ⟨_, rfl⟩
      rw [hS2] at HO2 HP hl2
      clear hS2 hown2 hg2 hown1 hl1 hown b1
      go_wp2_with (first
        | (at_builtin; refine wpList_append_own _ rfl _ _ 29 rfl w.heap.size 35 i0 (.agg #[.int .i64 0, .int .i64 0, .int .u64 0]) 3 24 Try.underlying29 hi hz0 hz1 hz2 rfl (by decide) _ _ _ rfl (World.ownsRow.alloc HO2.out _) ⟨_, 0, none⟩ 1 1 [.int .i64 3, .int .i64 0, .int .u64 0] rfl rfl ?c1 ?c2 ?c3 ?c4 ?c5 ?_)
        | go_in)
      case c1 => exact three_cells (by simp)
      case c2 => intro u hu; simp at hu; rcases hu with rfl | rfl | rfl <;> rfl
      case c3 => unfold maxLen; omega
      case c4 => omega
      case c5 => have := hnx2.size; simp; omega
      intro v3 w3 hown3' hg3 _
      have hnx3 : Below w.heap.size w w3 := (hnx2.alloc hnx2.size _).grown hg3 (by have := hnx2.size; simp; omega) (fun j h => (World.ownsRow.lt HO2.out j h).1)
      have HO3 : Hid (OwnRef w3 w.heap.size v3 (S2 ++ [⟨3, 0, 0⟩])) := OwnRef.more (by rw [hl2]; exact hown3')
      have hbs3 := hnx3.size
      have HL3 : Hid ((S2 ++ [(⟨3, 0, 0⟩ : Stp)]).length + 3 ≤ 1000000) := by show (S2 ++ [(⟨3, 0, 0⟩ : Stp)]).length + 3 ≤ 1000000; rw [List.length_append, hl2]; simp only [List.length_cons, List.length_nil]; omega
      clear hown3' hg3
      go_wp2_with (first
        | (go_at_call 36; refine (refStatus_any _ _ _).mono ?_; rintro e w4 ⟨v4, rfl, ho4, b4⟩; have hs4 := b4.size; have hown4 := HO3.out.later (Nat.le_refl _) b4)
        | (at_builtin; refine wpList_refApp _ rfl _ _ rfl w.heap.size w3.heap.size v3 v4 (S2 ++ [⟨3, 0, 0⟩]) [⟨1, f, 0⟩, ⟨2, f, 0⟩, ⟨3, 0, 0⟩] rfl rfl hown4 ho4 (by omega) HL3.out ?_)
        | fail)
      intro v5 w5 hown5 hg5
      have hnx5 : Below w.heap.size w w5 := (hnx3.trans (b4.mono hbs3)).grown hg5 (by omega) (fun j h => (World.ownsRow.lt hown4 j h).1)
      have HO5 : Hid (OwnRef w5 w.heap.size v5 (makingP f cs)) := by show OwnRef w5 w.heap.size v5 (makingP f cs); rw [HP.out, List.append_assoc]; exact hown5
      clear hown5 hg5 hown4 ho4
      go_wp2
      go_ret
      exact ⟨_, rfl, HO5.out, hnx5⟩

end Go.Proofs.Ytfalchacdebdpaa
