/- Crash's contract. -/
import Derived.Test.YtfalchacdebdpaaNew
import Derived.Deep.RegionWith
namespace Go.Proofs.Ytfalchacdebdpaa
open Go.RowKit Go.Maps Go.ChangeMaps

/-- A slice of bools that lies in no block of S. -/
def KeepIs (w : World) (S : List Nat) (v : Value) (ks : List Bool) : Prop :=
  ∃ ka kc, v = .slice ka ks.length kc ∧ (ks = [] ∨ ∃ kb ko, ka = some ⟨kb, ko, none⟩ ∧ kb ∉ S ∧ ∀ i, i < ks.length → w.cell? ⟨kb, ko + i, none⟩ = some (.bool (ks.getD i false)))

theorem keepIs_nil (w : World) (S : List Nat) : KeepIs w S (.slice none 0 0) [] := ⟨none, 0, rfl, .inl rfl⟩
theorem KeepIs.only {w w' : World} {S : List Nat} {v : Value} {ks : List Bool} (h : KeepIs w S v ks) (ho : Only S w w') : KeepIs w' S v ks := by
  obtain ⟨ka, kc, e, h1⟩ := h
  refine ⟨ka, kc, e, ?_⟩
  rcases h1 with h1 | ⟨kb, ko, e1, h2, h3⟩
  · exact .inl h1
  · refine .inr ⟨kb, ko, e1, h2, fun i hi => ?_⟩
    have hl := World.block_lt_of_cell? w _ (h3 i hi)
    rw [World.cell?_of_block (w := w) (ho.block kb hl h2)]
    exact h3 i hi

/-- A look-up as the machine runs it. -/
theorem MapIs.run {w : World} {b n : Nat} {f : Int → Option Int} (h : MapIs w b n f) {k : Int} (hwk : (Lit.int .i64 k).wf = true) : (Instr.lookup 87 (.map (some b)) (.int .i64 k) false).run Try.prog w = .ok (.int .u64 ((f k).getD 0)) w := by
  obtain ⟨D, hown, hr⟩ := h
  obtain ⟨c, hrun, hat, _⟩ := hown.lookup_int law3 Try.underlying87 Try.underlying22 (zero22 _) (keyOf_int_mk Try.underlying3 hwk)
  rw [hrun, reads_look hr k c hat]

theorem ownsRow_form0 {w : World} {base e n : Nat} {v : Value} {xs : List Value} (h : w.ownsRow base e 1 v n xs) : ∃ a c, v = .slice a n c ∧ (n = 0 ∨ ∃ g, a = some ⟨g, 0, none⟩ ∧ base ≤ g) := by
  rcases h.2 with ⟨rfl, rfl⟩ | ⟨g, cap, cur, rfl, hb, _⟩
  · exact ⟨none, 0, rfl, .inl rfl⟩
  · exact ⟨_, cap, rfl, .inr ⟨g, rfl, hb⟩⟩

set_option maxHeartbeats 2000000 in
set_option maxRecDepth 100000 in
theorem crash_any (L : Lay) (M : Mem) (kv : Value) (ks : List Bool) (w : World) (h : MemIs w L M) (hc : M.calls < 1000000000) (hk : KeepIs w L.blocks kv ks) (hks : ks.length ≤ 9223372036854775807) :
    Calls Try.prog 23 #[.pointer (some ⟨L.mb, 0, none⟩), kv] w fun e w' => e = .returned (.tuple #[]) ∧ MemIs w' L (M.crash ks) ∧ Only L.blocks w w' := by
  obtain ⟨ka, kc, rfl, hk1⟩ := id hk
  have hall := h.all_lt
  have hkl := keys_len M
  have hlen := h.len
  have hkeys := mem_keys M h.looseIn
  go_enter Try.func23, Try.ntmps23
  go_wp2_with (first
    | (go_at_call 20; refine (loose_any L M _ h hc).mono ?_; rintro e w1 ⟨v, rfl, hrow, hnil, hb⟩; obtain ⟨va, vc, rfl, hva⟩ := ownsRow_form0 hrow)
    | go_in)
  go_loopw [11] (fun i wr => ∃ t : Nat, t ≤ M.keys.length ∧ i = .int .i64 t ∧ MemIs wr L { M with sure := crashTo M ks t } ∧ Only L.blocks w wr ∧ wr.ownsRow w.heap.size 3 1 (.slice va M.keys.length vc) M.keys.length (M.keys.map (Value.int .i64))) (fun i _ => M.keys.length - (intOf i).toNat)
  case atStart => exact ⟨0, Nat.zero_le _, rfl, h.below hb hall, Only.of_below hb, hrow⟩
  case round =>
    obtain ⟨t, ht, rfl, hM, ho, hr⟩ := hrel
    by_cases hlt : t < M.keys.length
    · rcases hva with h0 | ⟨g, rfl, hg⟩
      · omega
      obtain ⟨x, hx⟩ : ∃ x, M.keys.getD t 0 = x := ⟨_, rfl⟩
      have hcell : wr.cell? ⟨g, t, none⟩ = some (.int .i64 x) := by
        rw [hr.cellAt t (by omega), ← hx]; simp [hlt]
      have hmem : x ∈ M.keys := by rw [← hx]; simp [hlt]
      obtain ⟨u, hu⟩ := Option.isSome_iff_exists.1 ((hkeys x).1 hmem)
      have hin := h.looseIn x u hu
      obtain ⟨j, rfl⟩ : ∃ j : Nat, x = j := ⟨x.toNat, by omega⟩
      have hj : j < M.sure.length := by omega
      have hj' : j < ({ M with sure := crashTo M ks t } : Mem).sure.length := by show j < (crashTo M ks t).length; rw [crashTo_len]; exact hj
      have e := hM.some_of_pos (Nat.zero_lt_of_lt hj')
      have hwu := h.loose.wf hu
      have hwj : (Lit.int .i64 (j : Int)).wf = true := WalkArith.wf_i64 (by omega)
      have c0 := hM.c0
      rw [e, show ({ M with sure := crashTo M ks t } : Mem).sure.length = M.sure.length from crashTo_len M ks t] at c0
      have c1 := hM.c1
      have cs := hM.sureCell j hj'
      have fs := hM.sureFz j hj'
      have hstep : ∀ W : World, MemIs W L { M with sure := (crashTo M ks t).set j u } → kept ks t = true → MemIs W L { M with sure := crashTo M ks (t + 1) } := fun W hW hkt => by
        have : crashTo M ks (t + 1) = (crashTo M ks t).set j u := by
          show (if kept ks t then _ else _) = _
          rw [if_pos hkt, hx, hu]; simp
        rw [this]; exact hW
      have hskip : kept ks t = false → crashTo M ks (t + 1) = crashTo M ks t := fun hkt => by
        show (if kept ks t then _ else _) = _
        rw [if_neg (by simp [hkt])]
      have hset : MemIs (wr.setCell ⟨L.sb, j, none⟩ (.int .u64 u)) L { M with sure := (crashTo M ks t).set j u } := hM.newSure j u hj' hwu
      have hsb : L.sb < w.heap.size := hall _ (by simp [Lay.blocks])
      have hr2 : (wr.setCell ⟨L.sb, j, none⟩ (.int .u64 u)).ownsRow w.heap.size 3 1 (.slice (some ⟨g, 0, none⟩) M.keys.length vc) M.keys.length (M.keys.map (Value.int .i64)) := ownsRow_setCell_below hr hsb _
      have ho2 : Only L.blocks w (wr.setCell ⟨L.sb, j, none⟩ (.int .u64 u)) := ho.setCell (by simp [Lay.blocks]) _
      have hl1 := hM.loose.run hwj
      have hl2 := hM.drew.loose.run hwj
      rw [show ({ M with sure := crashTo M ks t } : Mem).loose = M.loose from rfl, hu, Option.getD_some] at hl1 hl2
      have hkw := hk.only ho
      rcases hk1 with rfl | ⟨kb, ko, rfl, hkb, hcs⟩
      · have hkt : kept [] t = false := rfl
        have hM2 := hskip hkt
        clear hstep hskip hx hset hr2 ho2 hl1 hl2 cs fs hkw hk hkeys
        go_wp2
        go_roundw
        case rel => exact ⟨t + 1, by omega, by go_num, by rw [hM2]; exact hM, ho, hr⟩
        case measure => simp [intOf]; omega
      · by_cases hk0 : ks.length = 0
        · have e0 : ks = [] := List.length_eq_zero_iff.1 hk0
          subst e0
          have hM2 := hskip rfl
          clear hstep hskip hx hset hr2 ho2 hl1 hl2 cs fs hkw hk hkeys
          go_wp2
          go_roundw
          case rel => exact ⟨t + 1, by omega, by go_num, by rw [hM2]; exact hM, ho, hr⟩
          case measure => simp [intOf]; omega
        · obtain ⟨ka', kc', e1, hk3⟩ := hkw
          cases e1
          rcases hk3 with rfl | ⟨kb', ko', e2, _, hcs'⟩
          · exact absurd rfl hk0
          cases e2
          obtain ⟨q, hq⟩ : ∃ q, t % ks.length = q := ⟨_, rfl⟩
          have hq1 : q < ks.length := by rw [← hq]; exact Nat.mod_lt _ (by omega)
          have hq2 : (t : Int).tmod (ks.length : Int) = (q : Int) := by rw [← hq]; rfl
          have hcq := hcs' q hq1
          have hkt : kept ks t = ks.getD q false := by
            unfold kept; rw [hq]
            cases ks with
            | nil => exact absurd rfl hk0
            | cons a l => simp
          have hne : ((ks.length : Nat) : Int) ≠ 0 := by omega
          have hpos : (0 : Int) < (ks.length : Int) := by omega
          have hq3 : (q : Int) < (ks.length : Int) := by omega
          clear hcs hcs' hq hkeys hk hx
          cases hv : ks.getD q false with
          | false =>
            rw [hv] at hcq hkt
            have hM2 := hskip hkt
            clear hstep hskip hset hr2 ho2 hl1 hl2 cs fs hkt hv
            go_wp2
            go_roundw
            case rel => exact ⟨t + 1, by omega, by go_num, by rw [hM2]; exact hM, ho, hr⟩
            case measure => simp [intOf]; omega
          | true =>
            rw [hv] at hcq hkt
            have hM2 := fun W hW => hstep W hW hkt
            clear hstep hskip hkt hv
            go_wp2
            go_region
            all_goals
              go_wp2
              go_roundw
              case rel => exact ⟨t + 1, by omega, by go_num, (hM2 _ hset).drew, ho2.drew, hr2.drew⟩
              case measure => simp [intOf]; omega
    · obtain rfl : t = M.keys.length := by omega
      have c1 := hM.c1
      clear hkeys hk hk1 hva hrow hnil hb hr
      go_wp2_with (first
        | (refine wpList_clear _ rfl _ rfl L.lb _ _ rfl hM.loose ?_; intro w2 hm2 ht2; have h2 := hM.newLoose hm2 (Nat.zero_le _) ((Only.refl _ _).turned ht2 (by simp)) (fun _ _ x => by cases x); have c2 := h2.c2)
        | (refine wpList_clear _ rfl _ rfl L.wb _ _ rfl h2.way ?_; intro w3 hm3 ht3; have h3 := h2.newWay hm3 (Nat.zero_le _) ((Only.refl _ _).turned ht3 (by simp)) (fun _ _ x => by cases x); have f4 := h3.fz 4; have f5 := h3.fz 5; have c4 := h3.c4; have c5 := h3.c5)
        | go_in)
      go_end0
      refine ⟨rfl, ?_, ?_⟩
      · exact h3.fields (Nat.le_refl _) (heap_set5 (heap_set4 h3.obj _) _) (fun k hk => (Below.heap_setCell _ _ _ _ hk).trans (Below.heap_setCell _ _ _ _ hk))
      · exact (((ho.turned ht2 (by simp [Lay.blocks])).turned ht3 (by simp [Lay.blocks])).setCell (by simp [Lay.blocks]) _).setCell (by simp [Lay.blocks]) _

end Go.Proofs.Ytfalchacdebdpaa
