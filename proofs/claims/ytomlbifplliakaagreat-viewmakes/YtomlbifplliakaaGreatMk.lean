/- Storing changes one behind the other makes the memory read as the view does; two rows of words that are the same. -/
import Derived.Test.YtomlbifplliakaaGreatTw2
import Derived.Test.YtomlbifplliakaaGreatMSto
import Derived.Test.YtomlbifplliakaaGreatImg
import Derived.BigQuiet
import Derived.Deep.QuietTactic
namespace Go.Proofs.YtomlbifplliakaaGreat
open Go.RowKit Go.Maps Go.ChangeMaps
set_option linter.unusedVariables false

theorem store_ok {M : Mem} (hs : M.stops = false) {k : Int} (v : Int) (h0 : 0 ≤ k) (h1 : k < M.sure.length) :
    M.errAt k = 0 ∧ (M.store k v).stops = false ∧ (M.store k v).sure = M.sure ∧ (M.store k v).calls = M.calls + 1 ∧ ∀ j, (M.store k v).read j = if j = k then v else M.read j := by
  have hh : M.has k = true := by simp [Mem.has, h0, h1]
  have he : M.errAt k = 0 := by simp [Mem.errAt, Mem.still, hs, hh]
  have hst : M.store k v = { M.counted with loose := upd M.loose k (some v) } := by simp [Mem.store, he]
  refine ⟨he, by rw [hst]; exact hs, by rw [hst]; rfl, by rw [hst]; rfl, fun j => ?_⟩
  rw [hst]
  have hhj : ({ M.counted with loose := upd M.loose k (some v) } : Mem).has j = M.has j := rfl
  unfold Mem.read
  rw [hhj]
  by_cases e : j = k
  · subst e
    rw [if_pos hh, if_pos rfl]
    show ((upd M.loose j (some v)) j).getD _ = v
    rw [upd_same]; rfl
  · rw [if_neg e]
    show (if M.has j = true then ((upd M.loose k (some v)) j).getD (M.sure.getD j.toNat 0) else 0) = _
    rw [upd_other _ _ e]

/-- Behind the first k of these changes. -/
structure Put (M : Mem) (cs : List Chg) (k : Nat) (M' : Mem) : Prop where
  stops : M'.stops = false
  len : M'.sure.length = 2824
  calls : M'.calls = M.calls + k
  out : ∀ j, (∀ i, i < k → (cs.getD i (0, 0)).1 ≠ j) → M'.read j = M.read j
  at_ : ∀ i, i < k → M'.read (cs.getD i (0, 0)).1 = (cs.getD i (0, 0)).2
/-- The changes are of places that are open, one behind the other. -/
structure Good (S : Vw) (M : Mem) (cs : List Chg) : Prop where
  rise : ∀ i j, i < j → j < cs.length → (cs.getD i (0, 0)).1 < (cs.getD j (0, 0)).1
  open_ : ∀ i, i < cs.length → openI (cs.getD i (0, 0)).1
  val : ∀ i, i < cs.length → (cs.getD i (0, 0)).2 = S.word M (cs.getD i (0, 0)).1
  all : ∀ j, S.word M j ≠ M.read j → ∃ i, i < cs.length ∧ (cs.getD i (0, 0)).1 = j
theorem put_zero {M : Mem} {cs : List Chg} (hs : M.stops = false) (hl : M.sure.length = 2824) : Put M cs 0 M := ⟨hs, hl, rfl, fun _ _ => rfl, fun i hi => absurd hi (Nat.not_lt_zero i)⟩
theorem Put.step {S : Vw} {M : Mem} {cs : List Chg} {k : Nat} {M' : Mem} (h : Put M cs k M') (g : Good S M cs) (hk : k < cs.length) : Put M cs (k + 1) (M'.store (cs.getD k (0, 0)).1 (cs.getD k (0, 0)).2) ∧ M'.errAt (cs.getD k (0, 0)).1 = 0 := by
  have ho := g.open_ k hk
  unfold openI at ho
  obtain ⟨e1, e2, e3, e4, e5⟩ := store_ok h.stops (cs.getD k (0, 0)).2 (k := (cs.getD k (0, 0)).1) (by omega) (by rw [h.len]; omega)
  refine ⟨⟨e2, by rw [e3]; exact h.len, by rw [e4, h.calls]; omega, fun j hj => ?_, fun i hi => ?_⟩, e1⟩
  · rw [e5, if_neg (fun e => hj k (by omega) e.symm)]
    exact h.out j fun i hi => hj i (by omega)
  · rw [e5]
    by_cases e : i = k
    · subst e; rw [if_pos rfl]
    · have := g.rise i k (by omega) hk
      rw [if_neg (by omega)]
      exact h.at_ i (by omega)
theorem Put.reads {S : Vw} {M : Mem} {cs : List Chg} {M' : Mem} (h : Put M cs cs.length M') (g : Good S M cs) (j : Int) : M'.read j = S.word M j := by
  by_cases e : ∃ i, i < cs.length ∧ (cs.getD i (0, 0)).1 = j
  · obtain ⟨i, hi, rfl⟩ := e
    rw [h.at_ i hi, g.val i hi]
  · rw [h.out j fun i hi he => e ⟨i, hi, he⟩]
    by_cases e2 : S.word M j = M.read j
    · exact e2.symm
    · exact absurd (g.all j e2) e
theorem Put.none {S : Vw} {M : Mem} {cs : List Chg} {M' : Mem} (h : Put M cs cs.length M') (g : Good S M cs) {w : World} {V : VLay} {N : Nat} (hv : ViewIs w V S N) : S.changes M' = [] := by
  have hin : ∀ k, (S.own k).isSome = true → 0 ≤ k ∧ k < ((2824 : Nat) : Int) := fun k hk => by
    obtain ⟨v, hv2⟩ := Option.isSome_iff_exists.1 hk
    have := hv.inside k v hv2
    unfold openI at this
    omega
  unfold Vw.changes chgOf
  rw [List.map_eq_nil_iff, List.filter_eq_nil_iff]
  intro x hx
  have hx2 := (mem_placesOf (n := 2824) hin x).1 hx
  obtain ⟨v, hv2⟩ := Option.isSome_iff_exists.1 hx2
  have e1 : S.word M' x = v := by simp [Vw.word, hv2]
  have e2 : S.word M x = v := by simp [Vw.word, hv2]
  rw [e1, h.reads g x, e2]
  simp
theorem good_changes {S : Vw} {M : Mem} {w : World} {V : VLay} {N : Nat} (hv : ViewIs w V S N) : Good S M (S.changes M) := by
  have hin : ∀ k, (S.own k).isSome = true → 0 ≤ k ∧ k < ((2824 : Nat) : Int) := fun k hk => by
    obtain ⟨v, hv2⟩ := Option.isSome_iff_exists.1 hk
    have := hv.inside k v hv2
    unfold openI at this
    omega
  have hr := placesOf_rising (fun k => (S.own k).isSome) 2824
  obtain ⟨ks, hks⟩ : ∃ ks, ((S.places).filter fun x => decide (S.word M x ≠ M.read x)) = ks := ⟨_, rfl⟩
  have hcs : S.changes M = ks.map fun x => (x, S.word M x) := by unfold Vw.changes chgOf; rw [hks]
  have hkr : ks.Pairwise (· < ·) := by rw [← hks]; exact hr.filter _
  have hmem : ∀ x, x ∈ ks ↔ (S.own x).isSome = true ∧ S.word M x ≠ M.read x := fun x => by
    rw [← hks, List.mem_filter, show S.places = placesOf (fun k => (S.own k).isSome) 2824 from rfl, mem_placesOf hin]
    simp
  have hg : ∀ i, i < ks.length → (S.changes M).getD i (0, 0) = (ks.getD i 0, S.word M (ks.getD i 0)) := fun i hi => by rw [hcs]; simp [hi]
  have hl : (S.changes M).length = ks.length := by rw [hcs]; simp
  refine ⟨fun i j hij hj => ?_, fun i hi => ?_, fun i hi => ?_, fun j hj => ?_⟩
  · rw [hl] at hj
    rw [hg i (by omega), hg j hj]
    have := List.pairwise_iff_getElem.1 hkr i j (by omega) hj hij
    simpa [show i < ks.length by omega, hj] using this
  · rw [hl] at hi
    rw [hg i hi]
    have hm : ks.getD i 0 ∈ ks := by simp [hi]
    obtain ⟨v, hv2⟩ := Option.isSome_iff_exists.1 ((hmem _).1 hm).1
    exact hv.inside _ v hv2
  · rw [hl] at hi
    rw [hg i hi]
  · have hj2 : (S.own j).isSome = true := by
      cases e : S.own j with
      | none => exact absurd (by simp [Vw.word, e]) hj
      | some v => rfl
    obtain ⟨i, hi, e⟩ := List.mem_iff_getElem.1 ((hmem j).2 ⟨hj2, hj⟩)
    refine ⟨i, by rw [hl]; exact hi, ?_⟩
    rw [hg i hi]
    simpa [hi] using e
theorem changes_len (S : Vw) (M : Mem) : (S.changes M).length ≤ 2824 := by
  unfold Vw.changes
  exact Nat.le_trans (chgOf_len _ _ _) (placesOf_len _ _)
theorem rowI_snoc (f : Nat → Int) (n : Nat) : rowI f n ++ [.int .u64 (f n)] = rowI f (n + 1) := by
  unfold rowI
  rw [List.range_succ, List.map_append]
  rfl
theorem image_rowI (M : Mem) : M.image.map (Value.int .u64) = rowI (fun i => M.read (i : Int)) M.sure.length := by
  unfold Mem.image rowI
  rw [List.map_map]
  rfl
theorem row_words {w : World} {base : Nat} {v : Value} {n : Nat} {f : Nat → Int} (h : w.ownsRow base 35 1 v n (rowI f n)) : ∃ a c, v = .slice a n c ∧ UAt w a n f ∧ ∀ b, a.map (·.block) = some b → base ≤ b ∧ b < w.heap.size := by
  have h' := h
  obtain ⟨h0, h1⟩ := h
  rcases h1 with ⟨rfl, h2⟩ | ⟨g, cap, cur, rfl, h2, h3, h4, h5⟩
  · exact ⟨none, 0, by rw [h2], .inl h2, fun b e => by simp at e⟩
  · refine ⟨_, cap, rfl, .inr ⟨g, 0, rfl, (Array.getElem?_eq_some_iff.1 h3).1, fun i hi => ?_⟩, fun b e => by simp at e; subst e; exact ⟨h2, (Array.getElem?_eq_some_iff.1 h3).1⟩⟩
    rw [Nat.zero_add, h'.cellAt i (by omega), rowI_at f n i hi]
theorem UAt.only {w w' : World} {a : Option Addr} {n : Nat} {f : Nat → Int} {X : List Nat} (h : UAt w a n f) (ho : Only X w w') (hX : ∀ b, a.map (·.block) = some b → b ∉ X) : UAt w' a n f := by
  rcases h with h | ⟨b, o, rfl, hlt, hc⟩
  · exact .inl h
  · have hb := ho.block b hlt (hX b rfl)
    exact .inr ⟨b, o, rfl, by have := ho.size; omega, fun i hi => by rw [World.cell?_of_block (w := w) hb]; exact hc i hi⟩

set_option maxHeartbeats 1000000 in
theorem same_eq (a1 a2 : Option Addr) (n c1 c2 : Nat) (f1 f2 : Nat → Int) (w : World) (h1 : UAt w a1 n f1) (h2 : UAt w a2 n f2) (he : ∀ i, i < n → f1 i = f2 i) (l1 : n ≤ 9223372036854775807) :
    Calls Tryz.prog 16 #[.slice a1 n c1, .slice a2 n c2] w fun e w' => e = .returned (.bool true) ∧ Below w.heap.size w w' := by
  have H1 : Hid (UAt w a1 n f1) := h1
  have H2 : Hid (UAt w a2 n f2) := h2
  have HE : Hid (∀ i, i < n → f1 i = f2 i) := he
  clear h1 h2 he
  go_enter Tryz.func16, Tryz.ntmps16
  go_wp2
  go_loopw [5] (fun i wr => ∃ k : Nat, k ≤ n ∧ i = .int .i64 k ∧ Hid (Below w.heap.size w wr)) (fun i _ => n - (intOf i).toNat)
  case atStart => exact ⟨0, Nat.zero_le _, rfl, Below.refl _ _⟩
  case round =>
    obtain ⟨k, hk, rfl, HB⟩ := hrel
    by_cases hlt : k < n
    · obtain ⟨b, o, rfl, hb, hc⟩ := H1.out.resolve_left (by omega)
      obtain ⟨b', o', rfl, hb', hc'⟩ := H2.out.resolve_left (by omega)
      have x1 := (HB.out.cell (p := ⟨b, o + k, none⟩) hb).trans (hc k hlt)
      have x2 := (HB.out.cell (p := ⟨b', o' + k, none⟩) hb').trans (hc' k hlt)
      rw [HE.out k hlt] at x1
      have hkn : (k : Int) < (n : Int) := by omega
      obtain ⟨X, hX⟩ : ∃ X, f2 k = X := ⟨_, rfl⟩
      rw [hX] at x1 x2
      clear hX hc hc'
      go_wp2
      go_quiet (fail)
      go_wp2
      go_roundw
      case rel => exact ⟨k + 1, by omega, by go_num, below_drewN HB.out _⟩
      case measure => simp [intOf]; omega
    · obtain rfl : k = n := by omega
      go_wp2
      go_ret
      exact ⟨rfl, HB.out⟩

/-- The view over a memory that is changed, with the changes' row and the words that are wanted. -/
structure Mid (w0 w : World) (V : VLay) (S : Vw) (N : Nat) (L : Lay) (M : Mem) (a : Option Addr) (cs : List Chg) (wa : Option Addr) (n : Nat) (f : Nat → Int) : Prop where
  view : ViewIs w V S N
  mem : MemIs w L M
  mb : V.mb = L.mb
  vl : ∀ b ∈ L.blocks, b ∉ V.all
  lowL : ∀ j ∈ L.blocks, w0.heap.size ≤ j
  bel : Below w0.heap.size w0 w
  chg : ChgsAt w a cs
  chgB : ∀ b, a.map (·.block) = some b → b ∉ L.blocks
  want : UAt w wa n f
  wantB : ∀ b, wa.map (·.block) = some b → b ∉ L.blocks
theorem Mid.step {w0 w w' : World} {V : VLay} {S : Vw} {N : Nat} {L : Lay} {M M' : Mem} {a : Option Addr} {cs : List Chg} {wa : Option Addr} {n : Nat} {f : Nat → Int} (h : Mid w0 w V S N L M a cs wa n f) (hm : MemIs w' L M') (ho : Only L.blocks w w') : Mid w0 w' V S N L M' a cs wa n f :=
  ⟨h.view.kept ho (fun k hk hk2 => h.vl k hk2 hk), hm, h.mb, h.vl, h.lowL, h.bel.trans (ho.below h.bel.size fun k hk => h.lowL k hk), h.chg.only ho h.chgB, h.chgB, h.want.only ho h.wantB, h.wantB⟩
theorem Mid.later {w0 w w' : World} {V : VLay} {S : Vw} {N : Nat} {L : Lay} {M : Mem} {a : Option Addr} {cs : List Chg} {wa : Option Addr} {n : Nat} {f : Nat → Int} (h : Mid w0 w V S N L M a cs wa n f) (hb : Below w.heap.size w w') : Mid w0 w' V S N L M a cs wa n f :=
  ⟨h.view.later hb, h.mem.later hb, h.mb, h.vl, h.lowL, h.bel.trans (hb.mono h.bel.size), h.chg.later (Nat.le_refl _) hb, h.chgB, h.want.later (Nat.le_refl _) hb, h.wantB⟩

end Go.Proofs.YtomlbifplliakaaGreat
