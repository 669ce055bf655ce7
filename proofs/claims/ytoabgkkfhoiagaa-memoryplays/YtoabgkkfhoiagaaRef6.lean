/- The document's memory: Crash. -/
import Derived.Test.YtoabgkkfhoiagaaRef5
namespace Go.Proofs.Ytoabgkkfhoiagaa
open Go.RowKit Go.Maps Go.ChangeMaps

def plainW (s : Int) : RW := ⟨s, s, 0, false, false⟩
def pickW (x : RW) (b : Bool) : Int := if b then x.now else x.sure
def crashR (R : Nat → RW) (l : List Int) (ks : List Bool) : Nat → Nat → RW
  | 0 => R
  | t + 1 => updR (crashR R l ks t) (l.getD t 0).toNat (plainW (pickW (crashR R l ks t (l.getD t 0).toNat) (kept ks t)))
def goesR (R : Nat → RW) (t : Nat) : Nat → RW := fun i => if i < t then { R i with goes := false } else R i
theorem goesR_zero (R : Nat → RW) : goesR R 0 = R := by funext i; simp [goesR]
theorem goesR_at (R : Nat → RW) (t : Nat) : goesR R t t = R t := by simp [goesR]
theorem goesR_step (R : Nat → RW) (t : Nat) : goesR R (t + 1) = updR (goesR R t) t { R t with goes := false } := by
  funext i
  by_cases e : i = t
  · subst e; rw [updR_same]; simp [goesR]
  · rw [updR_other _ _ e]
    unfold goesR
    have : (i < t + 1) ↔ (i < t) := by omega
    simp only [this]

/-- What holds when t loose words have been looked at. -/
theorem crashR_is {M : Mem} {R : Nat → RW} (hW : Words M R) (hS : Sound M) (ks : List Bool) (t : Nat) (ht : t ≤ M.keys.length) :
    ∀ i : Nat, i < M.sure.length → (crashR R M.keys ks t i).sure = (crashTo M ks t).getD i 0 ∧ ((i : Int) ∈ M.keys.take t → crashR R M.keys ks t i = plainW ((crashTo M ks t).getD i 0)) ∧ ((i : Int) ∉ M.keys.take t → crashR R M.keys ks t i = R i) := by
  induction t with
  | zero =>
    intro i hi
    refine ⟨?_, fun h => by simp at h, fun _ => rfl⟩
    exact hW.sure i hi
  | succ t ih =>
    have hlt : t < M.keys.length := by omega
    have ih' := ih (by omega)
    have hmem : M.keys.getD t 0 ∈ M.keys := by simp [hlt]
    obtain ⟨v, hv⟩ := Option.isSome_iff_exists.1 ((mem_keys M hS.looseIn _).1 hmem)
    have hr := hS.looseIn _ v hv
    obtain ⟨j, hj⟩ : ∃ j : Nat, M.keys.getD t 0 = j := ⟨(M.keys.getD t 0).toNat, by omega⟩
    have hjn : j < M.sure.length := by omega
    have htake : M.keys.take (t + 1) = M.keys.take t ++ [(j : Int)] := by
      rw [List.take_succ_eq_append_getElem hlt]
      congr 2
      rw [← hj]; simp [hlt]
    have hnot : (j : Int) ∉ M.keys.take t := by
      intro hm
      have hp := keys_rising M
      rw [← List.take_append_drop t M.keys] at hp
      have h2 := (List.pairwise_append.1 hp).2.2 (j : Int) hm (j : Int) (by
        have : M.keys.drop t = (j : Int) :: M.keys.drop (t + 1) := by
          rw [List.drop_eq_getElem_cons hlt]
          congr 1
          rw [← hj]; simp [hlt]
        rw [this]; simp)
      omega
    have hjR := (ih' j hjn).2.2 hnot
    have hnow : (R j).now = v := by rw [hW.now j hjn, read_of M j hjn, ← hj, hv]; rfl
    have hsu : (R j).sure = (crashTo M ks t).getD j 0 := by rw [← hjR]; exact (ih' j hjn).1
    have hstep : crashR R M.keys ks (t + 1) = updR (crashR R M.keys ks t) j (plainW (pickW (R j) (kept ks t))) := by
      show updR _ _ _ = _
      rw [hj]
      show updR _ j (plainW (pickW (crashR R M.keys ks t j) (kept ks t))) = _
      rw [hjR]
    have hto : ∀ i, i < M.sure.length → (crashTo M ks (t + 1)).getD i 0 = if i = j then pickW (R j) (kept ks t) else (crashTo M ks t).getD i 0 := fun i hi => by
      show (if kept ks t then _ else _ : List Int).getD i 0 = _
      cases hk : kept ks t with
      | false =>
        simp only [Bool.false_eq_true, if_false]
        by_cases e : i = j
        · subst e; rw [if_pos rfl]; unfold pickW; simp [hsu]
        · rw [if_neg e]
      | true =>
        simp only [if_true]
        rw [hj] at hv ⊢
        rw [hv]
        by_cases e : i = j
        · subst e; rw [if_pos rfl]; unfold pickW; simp [List.getD, crashTo_len, hi, hnow]
        · rw [if_neg e]
          have : j ≠ i := fun x => e x.symm
          simp [List.getD, this]
    intro i hi
    rw [hstep, hto i hi, htake]
    by_cases e : i = j
    · subst e
      rw [updR_same, if_pos rfl]
      refine ⟨rfl, fun _ => rfl, fun h => absurd (by simp) h⟩
    · rw [updR_other _ _ e, if_neg e]
      have h2 : ((i : Int) ∈ M.keys.take t ++ [(j : Int)]) ↔ ((i : Int) ∈ M.keys.take t) := by
        rw [List.mem_append, List.mem_singleton]
        constructor
        · rintro (h | h)
          · exact h
          · omega
        · exact .inl
      rw [h2]
      exact ih' i hi

theorem words_crash {M : Mem} {R : Nat → RW} (hW : Words M R) (hS : Sound M) (ks : List Bool) : Words (M.crash ks) (goesR (crashR R M.keys ks M.keys.length) M.sure.length) := by
  have hlen : (M.crash ks).sure.length = M.sure.length := crashTo_len M ks _
  have all : ∀ i : Nat, i < M.sure.length → (crashR R M.keys ks M.keys.length i).sure = (crashTo M ks M.keys.length).getD i 0 ∧ (crashR R M.keys ks M.keys.length i).now = (crashTo M ks M.keys.length).getD i 0 ∧ (crashR R M.keys ks M.keys.length i).loose = false := fun i hi => by
    obtain ⟨h1, h2, h3⟩ := crashR_is hW hS ks M.keys.length (Nat.le_refl _) i hi
    rw [List.take_length] at h2 h3
    by_cases hm : (i : Int) ∈ M.keys
    · rw [h2 hm]; exact ⟨rfl, rfl, rfl⟩
    · have hl : M.loose i = none := by
        cases hl : M.loose i with
        | none => rfl
        | some v => exact absurd ((mem_keys M hS.looseIn _).2 (by rw [hl]; rfl)) hm
      refine ⟨h1, ?_, ?_⟩
      · rw [← h1, h3 hm, hW.now i hi, hW.sure i hi, read_of M i hi, hl]; rfl
      · rw [h3 hm, hW.loose i hi, hl]; rfl
  refine ⟨fun i hi => ?_, fun i hi => ?_, fun i hi => ?_, fun i hi => ?_, fun i u hi hu => ?_⟩
  · rw [hlen] at hi; unfold goesR; rw [if_pos hi]; exact (all i hi).1
  · rw [read_of _ i hi]
    rw [hlen] at hi; unfold goesR; rw [if_pos hi]; exact (all i hi).2.1
  · rw [hlen] at hi; unfold goesR; rw [if_pos hi]; exact (all i hi).2.2
  · rw [hlen] at hi; unfold goesR; rw [if_pos hi]; rfl
  · cases hu

theorem sound_crash {M : Mem} (ks : List Bool) : Sound (M.crash ks) := ⟨fun k hk => (by cases hk), fun h => (by cases h), fun k v hv => (by cases hv)⟩

/-- A word laid anew. -/
def plained (w : World) (gb j : Nat) (s : Int) : World :=
  ((((w.setCell ⟨gb, j * 5, none⟩ (.int .u64 s)).setCell ⟨gb, j * 5 + 1, none⟩ (.int .u64 s)).setCell ⟨gb, j * 5 + 2, none⟩ (.int .u64 0)).setCell ⟨gb, j * 5 + 3, none⟩ (.bool false)).setCell ⟨gb, j * 5 + 4, none⟩ (.bool false)

theorem RefAt.plain {w : World} {L : RLay} {n c : Nat} {R : Nat → RW} {h : Int} (H : RefAt w L n R c h) (j : Nat) (s : Int) (hj : j < n) : RefAt (plained w L.gb j s) L n (updR R j (plainW s)) c h := by
  have h1 := H.set j 0 { R j with sure := s } hj (by omega) (fld5 (fun h => absurd rfl h) (fun _ => rfl) (fun _ => rfl) (fun _ => rfl) (fun _ => rfl))
  have h2 := h1.set j 1 { R j with sure := s, now := s } hj (by omega) (by rw [updR_same]; exact fld5 (fun _ => rfl) (fun h => absurd rfl h) (fun _ => rfl) (fun _ => rfl) (fun _ => rfl))
  have h3 := h2.set j 2 { R j with sure := s, now := s, way := 0 } hj (by omega) (by rw [updR_same]; exact fld5 (fun _ => rfl) (fun _ => rfl) (fun h => absurd rfl h) (fun _ => rfl) (fun _ => rfl))
  have h4 := h3.set j 3 { R j with sure := s, now := s, way := 0, loose := false } hj (by omega) (by rw [updR_same]; exact fld5 (fun _ => rfl) (fun _ => rfl) (fun _ => rfl) (fun h => absurd rfl h) (fun _ => rfl))
  have h5 := h4.set j 4 (plainW s) hj (by omega) (by rw [updR_same]; exact fld5 (fun _ => rfl) (fun _ => rfl) (fun _ => rfl) (fun _ => rfl) (fun h => absurd rfl h))
  rw [updR_twice, updR_twice, updR_twice, updR_twice] at h5
  exact h5
theorem plained_only {w0 w : World} {L : RLay} (ho : Only L.blocks w0 w) (j : Nat) (s : Int) : Only L.blocks w0 (plained w L.gb j s) := by
  have hm : L.gb ∈ L.blocks := by simp [RLay.blocks]
  exact ((((ho.setCell hm _).setCell hm _).setCell hm _).setCell hm _).setCell hm _
theorem plained_row {w : World} {base gb j : Nat} {s : Int} {e : Nat} {v : Value} {n : Nat} {xs : List Value} (h : w.ownsRow base e 1 v n xs) (hg : gb < base) : (plained w gb j s).ownsRow base e 1 v n xs :=
  ownsRow_setCell_below (ownsRow_setCell_below (ownsRow_setCell_below (ownsRow_setCell_below (ownsRow_setCell_below h hg _) hg _) hg _) hg _) hg _

set_option maxHeartbeats 8000000 in
set_option maxRecDepth 100000 in
theorem crash_ref (L : RLay) (M : Mem) (kv : Value) (ks : List Bool) (w : World) (H : RefIs w L M) (hk : KeepIs w L.blocks kv ks) (hks : ks.length ≤ 9223372036854775807) :
    Calls Try.prog 40 #[.pointer (some ⟨L.rb, 0, none⟩), kv] w fun e w' => e = .returned (.tuple #[]) ∧ RefIs w' L (M.crash ks) ∧ Only L.blocks w w' := by
  obtain ⟨ka, kc, rfl, hk1⟩ := id hk
  have hl0 := loose_ref L M w H
  obtain ⟨R, hR, hW, hS⟩ := H
  have hall := hR.all_lt
  have hkl := keys_len M
  have hlen := hR.len
  have HWS : Hid (Words M R ∧ Sound M) := ⟨hW, hS⟩
  have hkeys := mem_keys M hS.looseIn
  have hin := hS.looseIn
  have HL : Hid _ := hl0
  clear hl0 hW hS
  go_enter Try.func40, Try.ntmps40
  go_wp2_with (first
    | (go_at_call 19; refine Calls.mono (Hid.out HL) ?_; rintro e w1 ⟨v, rfl, hrow, hb⟩; obtain ⟨va, vc, rfl, hva⟩ := ownsRow_form0 hrow)
    | go_in)
  go_loopw [5] (fun i wr => ∃ t : Nat, t ≤ M.keys.length ∧ i = .int .i64 t ∧ RefAt wr L M.sure.length (crashR R M.keys ks t) M.calls (haltOf M) ∧ Only L.blocks w wr ∧ wr.ownsRow w.heap.size 3 1 (.slice va M.keys.length vc) M.keys.length (M.keys.map (Value.int .i64))) (fun i _ => M.keys.length - (intOf i).toNat)
  case atStart => exact ⟨0, Nat.zero_le _, rfl, hR.of_blocks fun k hk _ => hb.block k (hall k hk), Only.of_below hb, hrow⟩
  case round =>
    clear hb hrow HL
    obtain ⟨t, ht, rfl, hA, ho, hr⟩ := hrel
    by_cases hlt : t < M.keys.length
    · rcases hva with h0 | ⟨g, rfl, hg⟩
      · omega
      have hti : (t : Int) < (M.keys.length : Int) := by omega
      obtain ⟨x, hx⟩ : ∃ x, M.keys.getD t 0 = x := ⟨_, rfl⟩
      have hcell : wr.cell? ⟨g, t, none⟩ = some (.int .i64 x) := by
        rw [hr.cellAt t (by omega), ← hx]; simp [hlt]
      have hmem : x ∈ M.keys := by rw [← hx]; simp [hlt]
      obtain ⟨u, hu⟩ := Option.isSome_iff_exists.1 ((hkeys x).1 hmem)
      have hrg := hin x u hu
      obtain ⟨j, rfl⟩ : ∃ j : Nat, x = j := ⟨x.toNat, by omega⟩
      have hj : j < M.sure.length := by omega
      have hji : (j : Int) < (M.sure.length : Int) := by omega
      have e := hA.some_of_pos (Nat.zero_lt_of_lt hj)
      have c0 := hA.c0
      rw [e] at c0
      have hgb : L.gb < w.heap.size := hall _ (by simp [RLay.blocks])
      have HST : Hid (crashR R M.keys ks (t + 1) = updR (crashR R M.keys ks t) j (plainW (pickW (crashR R M.keys ks t j) (kept ks t)))) := by
        show updR _ _ _ = _
        rw [hx]; rfl
      have hkw := hk.only ho
      have KEYS : Hid _ := hkeys
      clear hkeys hu hmem hx hk
      generalize crashR R M.keys ks t = Rt at *
      have cs := hA.cell j 0 hj (by omega)
      have cn := hA.cell j 1 hj (by omega)
      have f0 := hA.cellFz (Nat.zero_lt_of_lt hj) (j * 5)
      have f1 := hA.cellFz (Nat.zero_lt_of_lt hj) (j * 5 + 1)
      have f2 := hA.cellFz (Nat.zero_lt_of_lt hj) (j * 5 + 2)
      have f3 := hA.cellFz (Nat.zero_lt_of_lt hj) (j * 5 + 3)
      have f4 := hA.cellFz (Nat.zero_lt_of_lt hj) (j * 5 + 4)
      have cw := hA.cell j 2 hj (by omega)
      have cl := hA.cell j 3 hj (by omega)
      have cg := hA.cell j 4 hj (by omega)
      simp only [fld, Nat.add_zero] at cs cn cw cl cg
      rcases hk1 with rfl | ⟨kb, ko, rfl, hkb, hcs⟩
      · have hkt : kept [] t = false := rfl
        clear hkw
        have hA2 := hA.plain j (Rt j).sure hj
        have ho2 := plained_only ho j (Rt j).sure
        have hr2 := plained_row (j := j) (s := (Rt j).sure) hr hgb
        have HX : Hid (RefAt (plained wr L.gb j (Rt j).sure) L M.sure.length (crashR R M.keys [] (t + 1)) M.calls (haltOf M) ∧ Only L.blocks w (plained wr L.gb j (Rt j).sure) ∧ (plained wr L.gb j (Rt j).sure).ownsRow w.heap.size 3 1 (.slice (some ⟨g, 0, none⟩) M.keys.length vc) M.keys.length (M.keys.map (Value.int .i64))) := ⟨by rw [HST.out, hkt]; exact hA2, ho2, hr2⟩
        clear hA2 ho2 hr2 HST hA hr
        go_wp2
        go_region
        all_goals
          go_wp2
          go_roundw
          case rel => exact ⟨t + 1, by omega, by go_num, HX.out.1.drew, HX.out.2.1.drew, HX.out.2.2.drew⟩
          case measure => simp [intOf]; omega
      · by_cases hk0 : ks.length = 0
        · have e0 : ks = [] := List.length_eq_zero_iff.1 hk0
          subst e0
          have hkt : kept [] t = false := rfl
          clear hkw hcs
          have hA2 := hA.plain j (Rt j).sure hj
          have ho2 := plained_only ho j (Rt j).sure
          have hr2 := plained_row (j := j) (s := (Rt j).sure) hr hgb
          have HX : Hid (RefAt (plained wr L.gb j (Rt j).sure) L M.sure.length (crashR R M.keys [] (t + 1)) M.calls (haltOf M) ∧ Only L.blocks w (plained wr L.gb j (Rt j).sure) ∧ (plained wr L.gb j (Rt j).sure).ownsRow w.heap.size 3 1 (.slice (some ⟨g, 0, none⟩) M.keys.length vc) M.keys.length (M.keys.map (Value.int .i64))) := ⟨by rw [HST.out, hkt]; exact hA2, ho2, hr2⟩
          clear hA2 ho2 hr2 HST hA hr
          go_wp2
          go_region
          all_goals
            go_wp2
            go_roundw
            case rel => exact ⟨t + 1, by omega, by go_num, HX.out.1.drew, HX.out.2.1.drew, HX.out.2.2.drew⟩
            case measure => simp [intOf]; omega
        · obtain ⟨ka', kc', e1, hk3⟩ := hkw
          cases e1
          rcases hk3 with rfl | ⟨kb', ko', e2, _, hcs'⟩
          · exact absurd rfl hk0
          cases e2
          obtain ⟨q, hq⟩ : ∃ q, t % ks.length = q := ⟨_, rfl⟩
          have hq1 : q < ks.length := by rw [← hq]; exact Nat.mod_lt _ (by omega)
          have hq2 : (t : Int).tmod (ks.length : Int) = (q : Int) := by rw [← hq]; rfl
          have hcq := hcs' q hq1
          have hkt : kept ks t = ks.getD q false := by
            unfold kept; rw [hq]
            cases ks with
            | nil => exact absurd rfl hk0
            | cons a l => simp
          have hne : ((ks.length : Nat) : Int) ≠ 0 := by omega
          have hpos : (0 : Int) < (ks.length : Int) := by omega
          have hq3 : (q : Int) < (ks.length : Int) := by omega
          clear hcs hcs' hq
          cases hv : ks.getD q false with
          | false =>
            rw [hv] at hcq hkt
            clear hv
            have hA2 := hA.plain j (Rt j).sure hj
            have ho2 := plained_only ho j (Rt j).sure
            have hr2 := plained_row (j := j) (s := (Rt j).sure) hr hgb
            have HX : Hid (RefAt (plained wr L.gb j (Rt j).sure) L M.sure.length (crashR R M.keys ks (t + 1)) M.calls (haltOf M) ∧ Only L.blocks w (plained wr L.gb j (Rt j).sure) ∧ (plained wr L.gb j (Rt j).sure).ownsRow w.heap.size 3 1 (.slice (some ⟨g, 0, none⟩) M.keys.length vc) M.keys.length (M.keys.map (Value.int .i64))) := ⟨by rw [HST.out, hkt]; exact hA2, ho2, hr2⟩
            clear hA2 ho2 hr2 HST hA hr
            go_wp2
            go_region
            all_goals
              go_wp2
              go_roundw
              case rel => exact ⟨t + 1, by omega, by go_num, HX.out.1.drew, HX.out.2.1.drew, HX.out.2.2.drew⟩
              case measure => simp [intOf]; omega
          | true =>
            rw [hv] at hcq hkt
            clear hv
            have hA1 := hA.set j 0 { Rt j with sure := (Rt j).now } hj (by omega) (fld5 (fun h => absurd rfl h) (fun _ => rfl) (fun _ => rfl) (fun _ => rfl) (fun _ => rfl))
            simp only [fld, Nat.add_zero] at hA1
            have ho1 : Only L.blocks w (wr.setCell ⟨L.gb, j * 5, none⟩ (.int .u64 (Rt j).now)) := ho.setCell (by simp [RLay.blocks]) _
            have hr1 : (wr.setCell ⟨L.gb, j * 5, none⟩ (.int .u64 (Rt j).now)).ownsRow w.heap.size 3 1 (.slice (some ⟨g, 0, none⟩) M.keys.length vc) M.keys.length (M.keys.map (Value.int .i64)) := ownsRow_setCell_below hr hgb _
            generalize hw2 : wr.setCell ⟨L.gb, j * 5, none⟩ (.int .u64 (Rt j).now) = w2 at hA1 ho1 hr1
            have c0' := hA1.c0
            rw [e] at c0'
            have cs1 := hA1.cell j 0 hj (by omega)
            have cn1 := hA1.cell j 1 hj (by omega)
            have cw1 := hA1.cell j 2 hj (by omega)
            have cl1 := hA1.cell j 3 hj (by omega)
            have cg1 := hA1.cell j 4 hj (by omega)
            have g0 := hA1.cellFz (Nat.zero_lt_of_lt hj) (j * 5)
            have g1 := hA1.cellFz (Nat.zero_lt_of_lt hj) (j * 5 + 1)
            have g2 := hA1.cellFz (Nat.zero_lt_of_lt hj) (j * 5 + 2)
            have g3 := hA1.cellFz (Nat.zero_lt_of_lt hj) (j * 5 + 3)
            have g4 := hA1.cellFz (Nat.zero_lt_of_lt hj) (j * 5 + 4)
            simp only [fld, Nat.add_zero, updR_same] at cs1 cn1 cw1 cl1 cg1
            have hA2 := hA1.plain j (Rt j).now hj
            rw [updR_twice] at hA2
            have HX : Hid (RefAt (plained w2 L.gb j (Rt j).now) L M.sure.length (crashR R M.keys ks (t + 1)) M.calls (haltOf M) ∧ Only L.blocks w (plained w2 L.gb j (Rt j).now) ∧ (plained w2 L.gb j (Rt j).now).ownsRow w.heap.size 3 1 (.slice (some ⟨g, 0, none⟩) M.keys.length vc) M.keys.length (M.keys.map (Value.int .i64))) := ⟨by rw [HST.out, hkt]; exact hA2, plained_only ho1 j _, plained_row hr1 hgb⟩
            clear hA2 ho1 hr1 HST hA hr hA1 KEYS
            go_wp2
            go_region
            all_goals
              go_wp2
              go_region
              all_goals
                go_wp2
                go_roundw
                case rel => exact ⟨t + 1, by omega, by go_num, HX.out.1.drew.drew, HX.out.2.1.drew.drew, HX.out.2.2.drew.drew⟩
                case measure => simp [intOf]; omega
    · obtain rfl : t = M.keys.length := by omega
      clear hkeys hk hk1 hva hr
      generalize hRR : crashR R M.keys ks M.keys.length = RR at *
      have HRR : Hid _ := hRR
      clear hRR
      go_wp2
      go_loopw [7] (fun i wr => ∃ t : Nat, t ≤ M.sure.length ∧ i = .int .i64 t ∧ RefAt wr L M.sure.length (goesR RR t) M.calls (haltOf M) ∧ Only L.blocks w wr) (fun i _ => M.sure.length - (intOf i).toNat)
      case atStart => exact ⟨0, Nat.zero_le _, rfl, by rw [goesR_zero]; exact hA, ho⟩
      case round =>
        clear hA ho
        obtain ⟨t, ht2, rfl, hA, ho⟩ := hrel
        have c0 := hA.c0
        by_cases hlt2 : t < M.sure.length
        · have hti : (t : Int) < (M.sure.length : Int) := by omega
          have e := hA.some_of_pos (Nat.zero_lt_of_lt hlt2)
          rw [e] at c0
          have cg := hA.cell t 4 hlt2 (by omega)
          have fg := hA.cellFz (Nat.zero_lt_of_lt hlt2) (t * 5 + 4)
          have hA1 := hA.set t 4 { RR t with goes := false } hlt2 (by omega) (by rw [goesR_at]; exact fld5 (fun _ => rfl) (fun _ => rfl) (fun _ => rfl) (fun _ => rfl) (fun h => absurd rfl h))
          rw [goesR_at] at cg
          rw [← goesR_step] at hA1
          simp only [fld] at cg hA1
          have HA : Hid _ := hA1
          clear hA hA1
          go_wp2
          go_roundw
          case rel => exact ⟨t + 1, by omega, by go_num, Hid.out HA, ho.setCell (by simp [RLay.blocks]) _⟩
          case measure => simp [intOf]; omega
        · obtain rfl : t = M.sure.length := by omega
          have c2 := hA.c2
          have f2 := hA.fz 2
          go_wp2
          go_end0
          refine ⟨rfl, ⟨goesR RR M.sure.length, ?_, ?_, sound_crash ks⟩, ho.setCell (by simp [RLay.blocks]) _⟩
          · rw [show (M.crash ks).sure.length = M.sure.length from crashTo_len M ks _]
            exact hA.fields (rheap2 hA.obj _) (fun k hk => Below.heap_setCell _ _ _ _ hk)
          · rw [← Hid.out HRR]; exact words_crash HWS.out.1 HWS.out.2 ks

end Go.Proofs.Ytoabgkkfhoiagaa
