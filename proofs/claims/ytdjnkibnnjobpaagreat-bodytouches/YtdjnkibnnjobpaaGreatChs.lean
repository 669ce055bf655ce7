/- The base: memory, plan, cards, view, store, image, in one text. -/
import Derived.Test.YtdjnkibnnjobpaaGreatBig
import Derived.Shelf.SlIterI.Nil
import Derived.Shelf.SortM.Plain
import Derived.Shelf.SortM.SortNone
import Derived.Test.YtdjnkibnnjobpaaGreatProg
import Derived.Deep.QuietTactic
import Derived.Lib.OwnBridge

namespace Go.Proofs.YtdjnkibnnjobpaaGreat
open Go.RowKit Go.Maps Go.ChangeMaps

/-- A view that has forgotten all. -/
def VLay.anew (V : VLay) (G : Nat) : VLay := ⟨V.vb, V.mb, G, G + 1, G + 1 + 1, V.bb, V.db⟩
theorem vreset_any (V : VLay) (S : Vw) (N : Nat) (w : World) (h : ViewIs w V S N) :
    Calls Tryz.prog 40 #[.pointer (some ⟨V.vb, 0, none⟩)] w fun e w' => e = .returned (.tuple #[]) ∧ ViewIs w' (V.anew w.heap.size) S.clean 0 ∧ Only [V.vb] w w' := by
  have HF : Hid (Calls Tryz.prog 43 #[.pointer (some ⟨V.vb, 0, none⟩)] w fun e w' => e = .returned (.tuple #[]) ∧ w'.heap[V.vb]? = some (V.anew w.heap.size).obj ∧ MapIs w' w.heap.size 0 (fun _ => none) ∧ SetIs w' (w.heap.size + 1) 0 (fun _ => false) ∧ SetIs w' (w.heap.size + 1 + 1) 0 (fun _ => false) ∧ Only [V.vb] w w') := forget_any V.vb _ _ _ _ _ _ w h.obj
  have HL : Hid (V.vb < w.heap.size) := h.lt
  go_enter Tryz.func40, Tryz.ntmps40
  go_wp2_with (first
    | (go_at_call 57; refine (void_any V S N _ h).mono ?_; rintro e w' ⟨rfl, hw⟩; obtain rfl := hw.symm)
    | (go_at_call 43; refine Calls.mono (Hid.out HF) ?_; rintro e w1 ⟨rfl, ho, h1, h2, h3, hO⟩)
    | go_in)
  go_end0
  have hlt := h.lt
  have hne : ∀ x, x < w.heap.size → x ≠ w.heap.size ∧ x ≠ w.heap.size + 1 ∧ x ≠ w.heap.size + 1 + 1 := fun x hx => by omega
  refine ⟨rfl, ⟨ho, h1, h2, h3, ?_, ?_, ⟨by simp only [VLay.anew]; omega, by simp only [VLay.anew]; omega, by simp only [VLay.anew]; omega⟩, ?_, ?_, fun _ _ h => by simp [Vw.clean] at h, fun _ h => by simp [Vw.clean] at h, fun _ h => by simp [Vw.clean] at h⟩, hO⟩
  · exact h.away.of_blocks fun b e hl => hO.block b hl (by simp only [List.mem_singleton]; exact (h.vb_bb e).symm)
  · exact h.awayN.of_blocks fun b e hl => hO.block b hl (by simp only [List.mem_singleton]; exact (h.vb_db e).symm)
  · intro x e
    have := h.away
    rw [show V.bb = some x from e] at this
    exact hne x this.lt
  · intro x e
    have := h.awayN
    rw [show V.db = some x from e] at this
    exact hne x this.lt


end Go.Proofs.YtdjnkibnnjobpaaGreat

namespace Go.Proofs.YtdjnkibnnjobpaaGreat
open Go.Shelf
def Tryz.keysA_ren : Go.Shelf.Ren := ⟨fun | 7 => 69 | 10 => 86 | n => n, fun | 23 => 91 | 26 => 3 | 3 => 36 | 28 => 114 | 0 => 0 | 27 => 113 | 33 => 69 | 4 => 4 | n => n, fun | n => n⟩
theorem Tryz.keysA : Go.Proofs.SlLaysZI.n7 Tryz.prog Tryz.keysA_ren := {
  mixed := by kernel_rfl
  f7 := ⟨Tryz.f69.name, by decide, Tryz.func69.trans (congrArg some (by kernel_rfl))⟩
  f10 := ⟨Tryz.f86.name, by decide, Tryz.func86.trans (congrArg some (by kernel_rfl))⟩
  t0 := Tryz.underlying0
  a0 := Tryz.isAgg0
  z0 := Tryz.sizeOf0
  v0 := Tryz.zeroValue0
  t4 := Tryz.underlying4
  a4 := Tryz.isAgg4
  z4 := Tryz.sizeOf4
  v4 := Tryz.zeroValue4
  t23 := Tryz.underlying91
  a23 := Tryz.isAgg91
  z23 := Tryz.sizeOf91
  v23 := Tryz.zeroValue91
  t26 := Tryz.underlying3
  a26 := Tryz.isAgg3
  z26 := Tryz.sizeOf3
  v26 := Tryz.zeroValue3
  t27 := Tryz.underlying113
  a27 := Tryz.isAgg113
  z27 := Tryz.sizeOf113
  v27 := Tryz.zeroValue113
  t28 := Tryz.underlying114
  a28 := Tryz.isAgg114
  z28 := Tryz.sizeOf114
  v28 := Tryz.zeroValue114
  t33 := Tryz.underlying69
  a33 := Tryz.isAgg69
  z33 := Tryz.sizeOf69
  v33 := Tryz.zeroValue69 }
def Tryz.sortedA_ren : Go.Shelf.Ren := ⟨fun | 6 => 68 | 8 => 84 | 9 => 85 | 11 => 94 | 13 => 96 | 12 => 95 | 23 => 111 | 24 => 112 | 14 => 102 | 15 => 103 | 16 => 104 | 17 => 105 | 18 => 106 | 19 => 107 | 20 => 108 | 21 => 109 | 22 => 110 | 25 => 115 | 26 => 116 | 27 => 117 | 28 => 118 | 29 => 119 | 30 => 120 | 31 => 121 | n => n, fun | 26 => 3 | 28 => 114 | 24 => 63 | 0 => 0 | 3 => 3 | 37 => 43 | 48 => 141 | 50 => 36 | 4 => 4 | 40 => 148 | 39 => 147 | 45 => 153 | 5 => 5 | 9 => 9 | 51 => 161 | 55 => 164 | 57 => 166 | 58 => 167 | 33 => 69 | n => n, fun | n => n⟩
theorem Tryz.sortedA : Go.Proofs.SlLaysZI.n6 Tryz.prog Tryz.sortedA_ren := {
  mixed := by kernel_rfl
  f6 := ⟨Tryz.f68.name, by decide, Tryz.func68.trans (congrArg some (by kernel_rfl))⟩
  f8 := ⟨Tryz.f84.name, by decide, Tryz.func84.trans (congrArg some (by kernel_rfl))⟩
  f11 := ⟨Tryz.f94.name, by decide, Tryz.func94.trans (congrArg some (by kernel_rfl))⟩
  t0 := Tryz.underlying0
  a0 := Tryz.isAgg0
  z0 := Tryz.sizeOf0
  v0 := Tryz.zeroValue0
  t24 := Tryz.underlying63
  a24 := Tryz.isAgg63
  z24 := Tryz.sizeOf63
  v24 := Tryz.zeroValue63
  t26 := Tryz.underlying3
  a26 := Tryz.isAgg3
  z26 := Tryz.sizeOf3
  v26 := Tryz.zeroValue3
  t28 := Tryz.underlying114
  a28 := Tryz.isAgg114
  z28 := Tryz.sizeOf114
  v28 := Tryz.zeroValue114
  i26 := by kernel_rfl }
def Tryz.sortA_ren : Go.Shelf.Ren := ⟨fun | 5 => 85 | 8 => 96 | 7 => 95 | 19 => 111 | 20 => 112 | 10 => 102 | 11 => 103 | 12 => 104 | 13 => 105 | 14 => 106 | 15 => 107 | 16 => 108 | 17 => 109 | 18 => 110 | 30 => 115 | 31 => 116 | 32 => 117 | 33 => 118 | 34 => 119 | 35 => 120 | 40 => 121 | n => n, fun | 23 => 63 | 25 => 3 | 3 => 3 | 32 => 43 | 22 => 63 | 0 => 0 | 44 => 141 | 46 => 36 | 4 => 4 | 36 => 148 | 35 => 147 | 41 => 153 | 5 => 5 | 9 => 9 | 53 => 161 | 57 => 164 | 63 => 166 | 64 => 167 | n => n, fun | n => n⟩
theorem Tryz.sortA : Go.Proofs.SlLaysM.n5 Tryz.prog Tryz.sortA_ren := {
  mixed := by kernel_rfl
  f5 := ⟨Tryz.f85.name, by decide, Tryz.func85.trans (congrArg some (by kernel_rfl))⟩
  f7 := ⟨Tryz.f95.name, by decide, Tryz.func95.trans (congrArg some (by kernel_rfl))⟩
  f8 := Tryz.func96.trans (congrArg some (by kernel_rfl))
  f10 := ⟨Tryz.f102.name, by decide, Tryz.func102.trans (congrArg some (by kernel_rfl))⟩
  f11 := ⟨Tryz.f103.name, by decide, Tryz.func103.trans (congrArg some (by kernel_rfl))⟩
  f12 := ⟨Tryz.f104.name, by decide, Tryz.func104.trans (congrArg some (by kernel_rfl))⟩
  f13 := ⟨Tryz.f105.name, by decide, Tryz.func105.trans (congrArg some (by kernel_rfl))⟩
  f14 := ⟨Tryz.f106.name, by decide, Tryz.func106.trans (congrArg some (by kernel_rfl))⟩
  f15 := ⟨Tryz.f107.name, by decide, Tryz.func107.trans (congrArg some (by kernel_rfl))⟩
  f16 := ⟨Tryz.f108.name, by decide, Tryz.func108.trans (congrArg some (by kernel_rfl))⟩
  f17 := ⟨Tryz.f109.name, by decide, Tryz.func109.trans (congrArg some (by kernel_rfl))⟩
  f18 := ⟨Tryz.f110.name, by decide, Tryz.func110.trans (congrArg some (by kernel_rfl))⟩
  f19 := Tryz.func111.trans (congrArg some (by kernel_rfl))
  f20 := Tryz.func112.trans (congrArg some (by kernel_rfl))
  f30 := ⟨Tryz.f115.name, by decide, Tryz.func115.trans (congrArg some (by kernel_rfl))⟩
  f31 := Tryz.func116.trans (congrArg some (by kernel_rfl))
  f32 := Tryz.func117.trans (congrArg some (by kernel_rfl))
  f33 := ⟨Tryz.f118.name, by decide, Tryz.func118.trans (congrArg some (by kernel_rfl))⟩
  f34 := ⟨Tryz.f119.name, by decide, Tryz.func119.trans (congrArg some (by kernel_rfl))⟩
  f35 := ⟨Tryz.f120.name, by decide, Tryz.func120.trans (congrArg some (by kernel_rfl))⟩
  f40 := ⟨Tryz.f121.name, by decide, Tryz.func121.trans (congrArg some (by kernel_rfl))⟩
  t0 := Tryz.underlying0
  a0 := Tryz.isAgg0
  z0 := Tryz.sizeOf0
  v0 := Tryz.zeroValue0
  t3 := Tryz.underlying3
  a3 := Tryz.isAgg3
  z3 := Tryz.sizeOf3
  v3 := Tryz.zeroValue3
  t4 := Tryz.underlying4
  a4 := Tryz.isAgg4
  z4 := Tryz.sizeOf4
  v4 := Tryz.zeroValue4
  t5 := Tryz.underlying5
  a5 := Tryz.isAgg5
  z5 := Tryz.sizeOf5
  v5 := Tryz.zeroValue5
  t9 := Tryz.underlying9
  a9 := Tryz.isAgg9
  z9 := Tryz.sizeOf9
  v9 := Tryz.zeroValue9
  t22 := Tryz.underlying63
  a22 := Tryz.isAgg63
  z22 := Tryz.sizeOf63
  v22 := Tryz.zeroValue63
  t23 := Tryz.underlying63
  a23 := Tryz.isAgg63
  z23 := Tryz.sizeOf63
  v23 := Tryz.zeroValue63
  t25 := Tryz.underlying3
  a25 := Tryz.isAgg3
  z25 := Tryz.sizeOf3
  v25 := Tryz.zeroValue3
  t32 := Tryz.underlying43
  a32 := Tryz.isAgg43
  z32 := Tryz.sizeOf43
  v32 := Tryz.zeroValue43
  t35 := Tryz.underlying147
  a35 := Tryz.isAgg147
  z35 := Tryz.sizeOf147
  v35 := Tryz.zeroValue147
  t36 := Tryz.underlying148
  a36 := Tryz.isAgg148
  z36 := Tryz.sizeOf148
  v36 := Tryz.zeroValue148
  t41 := Tryz.underlying153
  a41 := Tryz.isAgg153
  z41 := Tryz.sizeOf153
  v41 := Tryz.zeroValue153
  t44 := Tryz.underlying141
  a44 := Tryz.isAgg141
  z44 := Tryz.sizeOf141
  v44 := Tryz.zeroValue141
  t46 := Tryz.underlying36
  a46 := Tryz.isAgg36
  z46 := Tryz.sizeOf36
  v46 := Tryz.zeroValue36
  t53 := Tryz.underlying161
  a53 := Tryz.isAgg161
  z53 := Tryz.sizeOf161
  v53 := Tryz.zeroValue161
  t57 := Tryz.underlying164
  a57 := Tryz.isAgg164
  z57 := Tryz.sizeOf164
  v57 := Tryz.zeroValue164
  t63 := Tryz.underlying166
  a63 := Tryz.isAgg166
  z63 := Tryz.sizeOf166
  v63 := Tryz.zeroValue166
  t64 := Tryz.underlying167
  a64 := Tryz.isAgg167
  z64 := Tryz.sizeOf167
  v64 := Tryz.zeroValue167 }
end Go.Proofs.YtdjnkibnnjobpaaGreat

namespace Go.Proofs.YtdjnkibnnjobpaaGreat
open Go.RowKit Go.Maps Go.ChangeMaps Go.Sort Go.Shelf

theorem Tryz.sortsA (m : Nat) : AnyZI.SortsIn Tryz.prog Tryz.sortedA_ren Fence.wide m :=
  ⟨fun blk off cap ss W hH hblk hsz => callsIn_wide.2 (AnyM.slices_Sort_int Tryz.sortA blk off cap ss W hH hblk hsz),
   fun p cap W => callsIn_wide.2 (AnyM.slices_Sort_int_none Tryz.sortA p cap W)⟩

/-- The places below n at which s is true, in order. -/
def placesOf (s : Int → Bool) (n : Nat) : List Int := ((List.range n).filter fun (i : Nat) => s i).map Int.ofNat
theorem mem_placesOf {s : Int → Bool} {n : Nat} (h : ∀ k, s k = true → 0 ≤ k ∧ k < n) (x : Int) : x ∈ placesOf s n ↔ s x = true := by
  unfold placesOf
  simp only [List.mem_map, List.mem_filter, List.mem_range]
  constructor
  · rintro ⟨i, ⟨_, h1⟩, rfl⟩; exact h1
  · intro hx
    have := h x hx
    exact ⟨x.toNat, ⟨by omega, by rw [show ((x.toNat : Nat) : Int) = x by omega]; exact hx⟩, by simp; omega⟩
theorem placesOf_rising (s : Int → Bool) (n : Nat) : (placesOf s n).Pairwise (fun a b => a < b) := by
  unfold placesOf
  refine List.pairwise_map.2 ?_
  exact (List.Pairwise.filter _ List.pairwise_lt_range).imp fun {a b} h => by simp; omega
theorem placesOf_len (s : Int → Bool) (n : Nat) : (placesOf s n).length ≤ n := by
  unfold placesOf
  rw [List.length_map]
  exact Nat.le_trans (List.length_filter_le _ _) (by simp)

/-- A row of places made by slices.Sorted. -/
def SortedTo (w w' : World) (e : Ending) (l : List Int) : Prop := ∃ v, e = .returned v ∧ w'.ownsRow w.heap.size 3 1 v l.length (l.map (Value.int .i64)) ∧ (v = .slice none 0 0 ↔ l = []) ∧ Below w.heap.size w w'

theorem keysA_any (mb : Option Nat) (w : World) : Calls Tryz.prog 69 #[.map mb] w fun e w' => e = .returned (.func (.func 86) #[] #[.pointer (some ⟨w.heap.size, 0, none⟩)]) ∧ w' = w.alloc (.cells #[.map mb] 91) :=
  (callsIn_wide (n := 5)).1 (AnyZI.keys_in Tryz.keysA Fence.wide 5 trivial rfl mb w)
set_option maxHeartbeats 1000000 in
theorem sortedA_any (c b n : Nat) (D0 : DataW Unit) (s : Int → Bool) (q : Nat) (w : World) (hc : w.heap[c]? = some (.cells #[.map (some b)] 91 (0, 0))) (hown : w.ownsMap Tryz.prog 3 (plainElem Tryz.prog 36) b n D0) (hR : ∀ x : Int, Maps.has D0 (.int .i64 x) = s x) (hn : n < 1000000000) (hs : ∀ k, s k = true → 0 ≤ k ∧ k < q) :
    Calls Tryz.prog 68 #[.func (.func 86) #[] #[.pointer (some ⟨c, 0, none⟩)]] w fun e w' => SortedTo w w' e (placesOf s q) := by
  have hsz := hown.size_le
  have hmax : Maps.size D0 ≤ maxLen := by unfold maxLen; omega
  have hbytes : Maps.size D0 * 8 ≤ 140737488355328 := by omega
  have hperm : (placesOf s q).Perm (intKeys D0) := by
    refine CollectedI.perm (left := fun _ => false) ⟨(placesOf_rising s q).imp (fun h => by omega), fun x => ?_⟩ hown law3 Tryz.underlying3 (fun _ => rfl)
    rw [mem_placesOf hs, hR x]; simp
  have hsort : ∀ ss : List Int, ss.Perm (intKeys D0) → ss.mergeSort (fun x y => decide (x ≤ y)) = placesOf s q := fun ss hs => by
    have e1 : ss.mergeSort (fun x y => decide (x ≤ y)) = (placesOf s q).mergeSort (fun x y => decide (x ≤ y)) := mergeSort_of_perm_i (hs.trans hperm.symm)
    rw [e1]
    exact List.mergeSort_of_pairwise ((placesOf_rising s q).imp (fun {a b} h => by simp; omega))
  have hseq : SeqGives Fence.wide 2 Tryz.prog 86 #[.pointer (some ⟨c, 0, none⟩)] encZ (fun ss => ss.Perm (intKeys D0)) (Maps.size D0) w :=
    AnyZI.keys_gives (ρ := Tryz.keysA_ren) { Tryz.keysA with } Fence.wide _ trivial rfl (by omega) c b _ D0 _ (Array.getElem?_eq_some_iff.1 hc).1 (by rw [cell_of_row w c 0 _ _ _ hc]; rfl) hown
  have cS := AnyZI.sorted_in Tryz.sortedA Fence.wide 5 trivial trivial trivial trivial rfl (by omega) (Tryz.sortsA _) (enters_of Tryz.func85 (by kernel_rfl) rfl) 86 #[.pointer (some ⟨c, 0, none⟩)] trivial (enters_of Tryz.func86 (by kernel_rfl) rfl) _ _ hmax hbytes _ hseq
  change CallsIn _ _ Tryz.prog 68 _ _ _ at cS
  refine ((callsIn_wide (n := 5)).1 cS).mono ?_
  rintro e w' ⟨v, ss, rfl, hS, hrow, hnil, hb⟩
  have hlen : ss.length = (placesOf s q).length := (hS.trans hperm.symm).length_eq
  refine ⟨v, rfl, ?_, ?_, hb⟩
  · rw [hsort ss hS, hlen] at hrow
    exact hrow
  · rw [hnil]
    constructor
    · intro e; rw [e] at hlen; exact List.length_eq_zero_iff.1 hlen.symm
    · intro e; rw [e] at hlen; exact List.length_eq_zero_iff.1 hlen


end Go.Proofs.YtdjnkibnnjobpaaGreat

namespace Go.Proofs.YtdjnkibnnjobpaaGreat
open Go.RowKit Go.Maps Go.ChangeMaps Go.Shelf

/-- A row of changes of one's own. -/
def OwnChg (w : World) (base : Nat) (v : Value) (cs : List Chg) : Prop := w.ownsRow base 90 2 v cs.length (chgVals cs)
theorem OwnChg.more {w : World} {base : Nat} {v : Value} {ss : List Chg} {x y : Int} (h : w.ownsRow base 90 2 v (ss.length + 1) (chgVals ss ++ [.int .i64 x, .int .u64 y])) : OwnChg w base v (ss ++ [(x, y)]) := by
  unfold OwnChg
  rw [chgVals_append, chgVals_one, List.length_append]
  exact h
theorem OwnChg.at {w : World} {base : Nat} {v : Value} {ss : List Chg} (h : OwnChg w base v ss) : ∃ a c, v = .slice a ss.length c ∧ ss.length ≤ c ∧ ChgsAt w a ss ∧ ∀ b, a.map (·.block) = some b → base ≤ b ∧ b < w.heap.size := by
  have h' := h
  rcases h.2 with ⟨rfl, h0⟩ | ⟨g, cap, cur, rfl, _, _, hle, _⟩
  · exact ⟨none, 0, by rw [h0], by omega, .inl (List.length_eq_zero_iff.1 h0), fun b e => by cases e⟩
  · refine ⟨_, cap, rfl, hle, .inr ⟨g, 0, rfl, (h'.lt g rfl).2, fun i hi => ?_⟩, fun b e => by cases e; exact h'.lt g rfl⟩
    have := chgVals_at ss i hi
    rw [Nat.zero_add, World.ownsRow.cellAt h' (i * 2) (by omega), World.ownsRow.cellAt h' (i * 2 + 1) (by omega)]
    exact this
theorem own_ne {w : World} {b1 b2 : Nat} {e1 e2 : TypeId} {s1 s2 : Nat} {v1 v2 : Value} {n1 n2 : Nat} {x1 x2 : List Value} (h1 : w.ownsRow b1 e1 s1 v1 n1 x1) (h2 : w.ownsRow b2 e2 s2 v2 n2 x2) (he : e1 ≠ e2) : v1.ownBlock = none ∨ v1.ownBlock ≠ v2.ownBlock := by
  rcases h1.2 with ⟨rfl, _⟩ | ⟨g1, c1, u1, rfl, _, hb1, _⟩
  · exact .inl rfl
  · right
    rcases h2.2 with ⟨rfl, _⟩ | ⟨g2, c2, u2, rfl, _, hb2, _⟩
    · intro x; cases x
    · intro x
      have : g1 = g2 := Option.some.inj x
      subst this
      rw [hb1] at hb2
      cases hb2
      exact he rfl
theorem two_cells {w : World} {B : Nat} {x y : Value} {t : TypeId} (hB : w.heap.size = B) : ∀ (j : Nat) (r : Value), [x, y][j]? = some r → (w.alloc (.cells #[x, y] t)).cell? ((⟨B, 0, none⟩ : Addr).add j) = some r := by
  subst hB
  intro j u hj
  match j, hj with
  | 0, hj => simp at hj; subst hj; simp [Addr.add]
  | 1, hj => simp at hj; subst hj; simp [Addr.add]

/-- Of these places, those that are to be other ones. -/
def chgOf (f g : Int → Int) (ks : List Int) : List Chg := (ks.filter fun x => decide (f x ≠ g x)).map fun x => (x, f x)
theorem chgOf_same {f g : Int → Int} {ks : List Int} {x : Int} (h : f x = g x) : chgOf f g (ks ++ [x]) = chgOf f g ks := by simp [chgOf, List.filter_append, h]
theorem chgOf_other {f g : Int → Int} {ks : List Int} {x : Int} (h : f x ≠ g x) : chgOf f g (ks ++ [x]) = chgOf f g ks ++ [(x, f x)] := by simp [chgOf, List.filter_append, h]
theorem chgOf_len (f g : Int → Int) (ks : List Int) : (chgOf f g ks).length ≤ ks.length := by
  unfold chgOf
  rw [List.length_map]
  exact List.length_filter_le _ _
/-- Where the view has written; what it would change. -/
def Vw.places (S : Vw) : List Int := placesOf (fun k => (S.own k).isSome) 2824
def Vw.changes (S : Vw) (M : Mem) : List Chg := chgOf (S.word M) M.read S.places

theorem Tryz.infoC : (Tryz.prog.info? 90).map (fun i => (i.zero, i.size, i.bytes)) = some (some (.agg #[.int .i64 0, .int .u64 0]), 2, 16) := by kernel_rfl

theorem sortedOwn_any (c : Nat) (V : VLay) (S : Vw) (N : Nat) (w : World) (h : ViewIs w V S N) (hN : N < 1000000000) (hc : w.heap[c]? = some (.cells #[.map (some V.ob)] 91 (0, 0))) :
    Calls Tryz.prog 68 #[.func (.func 86) #[] #[.pointer (some ⟨c, 0, none⟩)]] w fun e w' => SortedTo w w' e S.places := by
  obtain ⟨D, hown, hr⟩ := h.own
  refine sortedA_any c V.ob N D (fun k => (S.own k).isSome) 2824 w hc hown (fun x => (hr x).1) hN fun k hk => ?_
  obtain ⟨v, hv⟩ := Option.isSome_iff_exists.1 hk
  have := h.inside k v hv
  unfold openI at this
  omega

set_option maxHeartbeats 2000000 in
theorem vchanges_any (V : VLay) (S : Vw) (N : Nat) (L : Lay) (M : Mem) (w : World) (h : ViewIs w V S N) (hm : MemIs w L M) (hv : V.mb = L.mb) (hN : N < 1000000000) :
    Calls Tryz.prog 38 #[.pointer (some ⟨V.vb, 0, none⟩)] w fun e w' => ∃ v, e = .returned v ∧ OwnChg w' w.heap.size v (S.changes M) ∧ Below w.heap.size w w' := by
  obtain ⟨i0, hi, hz0, hz1, hz2⟩ := info_parts Tryz.infoC
  have c1 := h.c1
  have HLV : Hid (∀ k ∈ V.all, k < w.heap.size) := h.all_lt
  have HLM : Hid (∀ k ∈ L.blocks, k < w.heap.size) := hm.all_lt
  have HIN : Hid (∀ x ∈ S.places, (S.own x).isSome = true ∧ 0 ≤ x ∧ x < 2824) := by
    intro x hx
    have hin : ∀ k, (S.own k).isSome = true → 0 ≤ k ∧ k < 2824 := fun k hk => by
      obtain ⟨v, hv⟩ := Option.isSome_iff_exists.1 hk
      have := h.inside k v hv
      unfold openI at this
      omega
    have := (mem_placesOf (n := 2824) hin x).1 hx
    exact ⟨this, hin x this⟩
  have hlen := placesOf_len (fun k => (S.own k).isSome) 2824
  have HCH : Hid (S.changes M = chgOf (S.word M) M.read S.places) := rfl
  obtain ⟨R, hR⟩ : ∃ R, S.changes M = R := ⟨_, rfl⟩
  rw [hR] at HCH ⊢
  clear hR
  have HSO : Hid (∀ (c : Nat) (w : World), ViewIs w V S N → w.heap[c]? = some (.cells #[.map (some V.ob)] 91 (0, 0)) → Calls Tryz.prog 68 #[.func (.func 86) #[] #[.pointer (some ⟨c, 0, none⟩)]] w fun e w' => SortedTo w w' e S.places) := fun c w h hc => sortedOwn_any c V S N w h hN hc
  obtain ⟨ks, hks⟩ : ∃ ks, S.places = ks := ⟨_, rfl⟩
  have hlen2 : ks.length ≤ 2824 := by rw [← hks]; exact hlen
  rw [hks] at HCH HIN HSO
  clear hks hlen
  obtain ⟨m, hm'⟩ : ∃ m, ks.length = m := ⟨_, rfl⟩
  have HM : Hid (ks.length = m) := hm'
  rw [hm'] at hlen2
  have hB1 : Below w.heap.size w (w.alloc (.cells #[.map (some V.ob)] 91)) := (Below.refl _ _).alloc (Nat.le_refl _) _
  have hs1 : (w.alloc (.cells #[.map (some V.ob)] 91)).heap.size = w.heap.size + 1 := by simp
  have HS : Hid (Calls Tryz.prog 68 #[.func (.func 86) #[] #[.pointer (some ⟨w.heap.size, 0, none⟩)]] (w.alloc (.cells #[.map (some V.ob)] 91)) fun e w' => ∃ v, e = .returned v ∧ w'.ownsRow w.heap.size 3 1 v m (ks.map (Value.int .i64)) ∧ Below w.heap.size w w') := by
    refine (HSO.out w.heap.size _ (h.later hB1) (heap_alloc_new _ _)).mono ?_
    rintro e w' ⟨v, h1, h2, _, h4⟩
    rw [hm'] at h2
    exact ⟨v, h1, ownsRow_base_a h2 (by omega), hB1.trans (h4.mono (by omega))⟩
  clear hm' HSO hB1 hs1
  go_enter Tryz.func38, Tryz.ntmps38
  go_wp2_with fail
  refine (void_any V S N _ h).mono ?_
  rintro e w' ⟨rfl, hw⟩
  obtain rfl := hw.symm
  go_wp2_with fail
  refine (keysA_any _ _).mono ?_
  rintro e w' ⟨rfl, rfl⟩
  go_wp2_with fail
  refine Calls.mono (Hid.out HS) ?_
  rintro e w1 ⟨v, rfl, hrow, hb1⟩
  obtain ⟨va, vc, rfl, hva⟩ := ownsRow_form0 hrow
  go_wp2
  go_loopw [3, 5, 6, 16] (fun v _ _ i wr => ∃ j : Nat, j ≤ m ∧ i = .int .i64 j ∧ Hid (OwnChg wr w.heap.size v (chgOf (S.word M) M.read (ks.take j))) ∧ wr.ownsRow w.heap.size 3 1 (.slice va m vc) m (ks.map (Value.int .i64)) ∧ Below w.heap.size w wr) (fun _ _ _ i _ => m - (intOf i).toNat)
  case atStart => exact ⟨0, Nat.zero_le _, rfl, by show OwnChg _ _ _ _; rw [List.take_zero]; exact World.ownsRow_nil _ _ _ _, hrow, hb1⟩
  case round =>
    obtain ⟨j, hj, rfl, HO, hln, hnx⟩ := hrel
    by_cases hlt2 : j < m
    · rcases hva with h0 | ⟨g, rfl, hg⟩
      · omega
      have hjm : (j : Int) < (m : Int) := by omega
      have hjl : j < ks.length := by have := HM.out; omega
      have hcell : wr.cell? ⟨g, j, none⟩ = some (.int .i64 (ks.getD j 0)) := by
        rw [hln.cellAt j (by omega)]; simp [hjl]
      have htk : ks.take (j + 1) = ks.take j ++ [ks.getD j 0] := by
        rw [List.take_add_one]; simp [hjl]
      have hin := HIN.out (ks.getD j 0) (by simp [hjl])
      have HV : Hid (ViewIs wr V S N) := h.below hnx HLV.out
      have HMM : Hid (MemIs wr L M) := hm.below hnx HLM.out
      obtain ⟨X, hX⟩ : ∃ X, ks.getD j 0 = X := ⟨_, rfl⟩
      rw [hX] at hcell htk hin
      clear hX
      obtain ⟨hin1, hin2, hin3⟩ := hin
      obtain ⟨Y, hY⟩ := Option.isSome_iff_exists.1 hin1
      have hwk : (Lit.int .i64 X).wf = true := WalkArith.wf_i64 (by omega)
      have hword : S.word M X = Y := by simp [Vw.word, hY]
      obtain ⟨Z, hZ⟩ : ∃ Z, M.read X = Z := ⟨_, rfl⟩
      have HR : Hid (Calls Tryz.prog 58 #[.pointer (some ⟨L.mb, 0, none⟩), .int .i64 X] wr fun e w' => e = .returned (.int .u64 Z) ∧ w' = wr) := by
        have := read_any L M X wr HMM.out hwk
        rw [hZ] at this
        exact this
      have d0 := HV.out.c0
      have d1 := HV.out.c1
      rw [hv] at d0
      have hls := chgOf_len (S.word M) M.read (ks.take j)
      have hls2 : (ks.take j).length ≤ j := by rw [List.length_take]; omega
      have hne := own_ne hln HO.out (by decide)
      have HO' := HO.out
      by_cases hYZ : Y = Z
      · subst hYZ
        have HO2 : Hid (∀ v, Hid (OwnChg wr w.heap.size v (chgOf (S.word M) M.read (ks.take j))) → Hid (OwnChg wr w.heap.size v (chgOf (S.word M) M.read (ks.take (j + 1))))) := fun v hv => by
          rw [htk, chgOf_same (hword.trans hZ.symm)]
          exact hv
        clear htk hword hZ hne HO' hls hls2 hin1
        go_wp2_with (first
          | (at_lookup; refine wpList_look1 _ rfl _ _ rfl V.ob N S.own X Y rfl HV.out.own rfl hwk (by rw [hY]; rfl) ?_)
          | (go_at_call 58; refine Calls.mono (Hid.out HR) ?_; rintro e w' ⟨rfl, hw⟩; obtain rfl := hw.symm)
          | go_in)
        go_roundw
        case rel => exact ⟨j + 1, by omega, by go_num, HO2.out _ HO, hln, hnx⟩
        case measure => simp [intOf]; omega
      · have e1 : (Y == Z) = false := by simpa using hYZ
        have e2 : (Y != Z) = true := by simpa using hYZ
        have HT : Hid (chgOf (S.word M) M.read (ks.take (j + 1)) = chgOf (S.word M) M.read (ks.take j) ++ [(X, Y)]) := by
          show _ = _
          rw [htk, chgOf_other (by rw [hword, hZ]; exact hYZ), hword]
        have HY : Hid (S.own X = some Y) := hY
        clear htk hword hZ hYZ hin1 hY
        go_wp2_with (first
          | (at_lookup; refine wpList_look1 _ rfl _ _ rfl V.ob N S.own X Y rfl HV.out.own rfl hwk (by rw [HY.out]; rfl) ?_)
          | (go_at_call 58; refine Calls.mono (Hid.out HR) ?_; rintro e w' ⟨rfl, hw⟩; obtain rfl := hw.symm)
          | (at_builtin; refine wpList_append_own _ rfl _ _ 86 rfl w.heap.size 90 i0 (.agg #[.int .i64 0, .int .u64 0]) 2 16 Tryz.underlying86 hi hz0 hz1 hz2 rfl (by decide) _ _ _ rfl (World.ownsRow.alloc HO' _) ⟨_, 0, none⟩ 1 1 [.int .i64 X, .int .u64 Y] rfl rfl ?c1 ?c2 ?c3 ?c4 ?c5 ?_)
          | go_in)
        case c1 => exact two_cells (by simp)
        case c2 => intro u hu; simp at hu; rcases hu with rfl | rfl <;> rfl
        case c3 => unfold maxLen; omega
        case c4 => omega
        case c5 => have := hnx.size; simp; omega
        intro v' w2 hown' hgrow _
        have hnx2 : Below w.heap.size w w2 := (hnx.alloc hnx.size _).grown hgrow (by have := hnx.size; simp; omega) (fun j h => (World.ownsRow.lt HO' j h).1)
        have hown2 : Hid (OwnChg w2 w.heap.size v' (chgOf (S.word M) M.read (ks.take (j + 1)))) := by
          show OwnChg _ _ _ _
          rw [HT.out]; exact OwnChg.more hown'
        have hln2 := (hln.alloc _).kept hgrow hne
        clear hgrow HO HO' hown' hln
        go_wp2
        go_roundw
        case rel => exact ⟨j + 1, by omega, by go_num, hown2, hln2, hnx2⟩
        case measure => simp [intOf]; omega
    · obtain rfl : j = m := by omega
      go_wp2
      go_ret
      refine ⟨_, rfl, ?_, hnx⟩
      have := HO.out
      rw [List.take_of_length_le (by have := HM.out; omega)] at this
      rw [HCH.out]
      exact this

end Go.Proofs.YtdjnkibnnjobpaaGreat

namespace Go.Proofs.YtdjnkibnnjobpaaGreat
open Go.RowKit Go.Maps Go.ChangeMaps

theorem count_any (L : Lay) (M : Mem) (w : World) (h : MemIs w L M) (hc : M.calls < 1000000000) :
    Calls Tryz.prog 87 #[.pointer (some ⟨L.mb, 0, none⟩)] w fun e w' => e = .returned (.int .i64 M.err) ∧ MemIs w' L M.counted ∧ Only [L.mb] w w' := by
  have c3 := h.c3
  have c4 := h.c4
  have c5 := h.c5
  have f3 := h.fz 3
  have fin : ∀ q, MemIs ((w.drewN q).setCell ⟨L.mb, 3, none⟩ (.int .i64 ((M.calls : Int) + 1))) L M.counted ∧ Only [L.mb] w ((w.drewN q).setCell ⟨L.mb, 3, none⟩ (.int .i64 ((M.calls : Int) + 1))) := by
    intro q
    have hd : MemIs (w.drewN q) L M := ⟨h.obj, h.row, h.place, h.loose, h.way, h.ne, h.looseIn, h.wayIn, h.len, h.words⟩
    have ho : Only [L.mb] w (w.drewN q) := ⟨rfl, rfl, rfl, Nat.le_refl _, fun _ _ _ => rfl⟩
    refine ⟨?_, ho.setCell (by simp) _⟩
    have e : ((M.calls : Int) + 1) = ((M.calls + 1 : Nat) : Int) := by omega
    rw [e]
    exact hd.fields (Nat.le_succ _) (heap_set3 hd.obj _) (fun k hk => Below.heap_setCell _ _ _ _ hk)
  clear h
  cases hs : M.stops with
  | false =>
    rw [hs] at c4
    have herr : M.err = 0 := by simp [Mem.err, Mem.still, hs]
    rw [herr]
    go_enter Tryz.func87, Tryz.ntmps87
    go_wp2
    go_quiet (fail)
    go_wp2
    go_ret
    exact ⟨rfl, fin _⟩
  | true =>
    rw [hs] at c4
    by_cases ht : M.stopAt ≤ M.calls
    · have herr : M.err = 14 := by simp [Mem.err, Mem.still, hs, ht]
      rw [herr]
      have ht' : decide (M.stopAt ≤ (M.calls : Int)) = true := by simpa using ht
      go_enter Tryz.func87, Tryz.ntmps87
      go_wp2
      go_quiet (fail)
      go_wp2
      go_ret
      exact ⟨rfl, fin _⟩
    · have herr : M.err = 0 := by simp [Mem.err, Mem.still, hs, ht]
      rw [herr]
      have ht' : decide (M.stopAt ≤ (M.calls : Int)) = false := by simpa using ht
      go_enter Tryz.func87, Tryz.ntmps87
      go_wp2
      go_quiet (fail)
      go_wp2
      go_ret
      exact ⟨rfl, fin _⟩

theorem countAt_any (L : Lay) (M : Mem) (k : Int) (w : World) (h : MemIs w L M) (hc : M.calls < 1000000000) :
    Calls Tryz.prog 70 #[.pointer (some ⟨L.mb, 0, none⟩), .int .i64 k] w fun e w' => e = .returned (.int .i64 (M.errAt k)) ∧ MemIs w' L M.counted ∧ Only [L.mb] w w' := by
  cases hst : M.still with
  | true =>
    have e1 : M.err = 14 := by simp [Mem.err, hst]
    have e2 : M.errAt k = 14 := by simp [Mem.errAt, hst]
    rw [e2]
    go_enter Tryz.func70, Tryz.ntmps70
    go_wp2_with (go_at_call 87; refine (count_any L M _ h hc).mono ?_; rintro e w' ⟨rfl, h1, o1⟩; rw [e1])
    go_ret
    exact ⟨rfl, h1, o1⟩
  | false =>
    have e1 : M.err = 0 := by simp [Mem.err, hst]
    cases hh : M.has k with
    | true =>
      have e2 : M.errAt k = 0 := by simp [Mem.errAt, hst, hh]
      have e3 : M.counted.has k = true := hh
      rw [e2]
      go_enter Tryz.func70, Tryz.ntmps70
      go_wp2_with (first
        | (go_at_call 87; refine (count_any L M _ h hc).mono ?_; rintro e w' ⟨rfl, h1, o1⟩; rw [e1])
        | (go_at_call 77; refine (has_any L M.counted k _ h1).mono ?_; rintro e w' ⟨rfl, rfl⟩; rw [e3]))
      go_ret
      exact ⟨rfl, h1, o1⟩
    | false =>
      have e2 : M.errAt k = 1 := by simp [Mem.errAt, hst, hh]
      have e3 : M.counted.has k = false := hh
      rw [e2]
      go_enter Tryz.func70, Tryz.ntmps70
      go_wp2_with (first
        | (go_at_call 87; refine (count_any L M _ h hc).mono ?_; rintro e w' ⟨rfl, h1, o1⟩; rw [e1])
        | (go_at_call 77; refine (has_any L M.counted k _ h1).mono ?_; rintro e w' ⟨rfl, rfl⟩; rw [e3]))
      go_ret
      exact ⟨rfl, h1, o1⟩

theorem store_any (L : Lay) (M : Mem) (k v : Int) (w : World) (h : MemIs w L M) (hc : M.calls < 1000000000) (hk : (Lit.int .i64 k).wf = true) (hv : (Lit.int .u64 v).wf = true) :
    Calls Tryz.prog 39 #[.pointer (some ⟨L.mb, 0, none⟩), .int .i64 k, .int .u64 v] w fun e w' => e = .returned (.int .i64 (M.errAt k)) ∧ MemIs w' L (M.store k v) ∧ Only L.blocks w w' := by
  rcases errAt_cases M k with he | he | ⟨he, hh⟩
  · have hst : M.store k v = M.counted := by simp [Mem.store, he]
    rw [hst, he]
    go_enter Tryz.func39, Tryz.ntmps39
    go_wp2_with (go_at_call 70; refine (countAt_any L M k _ h hc).mono ?_; rintro e w' ⟨rfl, h1, o1⟩; rw [he])
    go_ret
    exact ⟨rfl, h1, only_sub o1 (by simp [Lay.blocks])⟩
  · have hst : M.store k v = M.counted := by simp [Mem.store, he]
    rw [hst, he]
    go_enter Tryz.func39, Tryz.ntmps39
    go_wp2_with (go_at_call 70; refine (countAt_any L M k _ h hc).mono ?_; rintro e w' ⟨rfl, h1, o1⟩; rw [he])
    go_ret
    exact ⟨rfl, h1, only_sub o1 (by simp [Lay.blocks])⟩
  · have hst : M.store k v = { M.counted with loose := upd M.loose k (some v) } := by simp [Mem.store, he]
    rw [hst, he]
    go_enter Tryz.func39, Tryz.ntmps39
    go_wp2_with (first
      | (go_at_call 70; refine (countAt_any L M k _ h hc).mono ?_; rintro e w1 ⟨rfl, h1, o1⟩; rw [he]; have c1 := h1.c1)
      | (at_mapUpdate; refine wpList_put _ rfl _ _ _ rfl L.lb (8 * M.calls) M.loose k v rfl (h.loose.of_block (o1.block _ h.loose.lt (by simp [h.mb_lb.symm]))) (by unfold maxLen; omega) rfl rfl hk hv ?_; intro w2 hm2 ht2)
      | go_in)
    go_ret
    refine ⟨rfl, h1.newLoose hm2 (by show 8 * M.calls + 1 ≤ 8 * (M.calls + 1); omega) ((Only.refl _ _).turned ht2 (by simp)) ?_, ?_⟩
    · intro j x hj
      by_cases e : j = k
      · subst e; simpa [Mem.has, Mem.counted] using hh
      · rw [upd_other _ _ e] at hj; exact h.looseIn j x hj
    · exact (only_sub o1 (by simp [Lay.blocks])).turned ht2 (by simp [Lay.blocks])

end Go.Proofs.YtdjnkibnnjobpaaGreat

namespace Go.Proofs.YtdjnkibnnjobpaaGreat
open Go.RowKit Go.Maps Go.ChangeMaps
set_option linter.unusedVariables false

theorem store_ok {M : Mem} (hs : M.stops = false) {k : Int} (v : Int) (h0 : 0 ≤ k) (h1 : k < M.sure.length) :
    M.errAt k = 0 ∧ (M.store k v).stops = false ∧ (M.store k v).sure = M.sure ∧ (M.store k v).calls = M.calls + 1 ∧ ∀ j, (M.store k v).read j = if j = k then v else M.read j := by
  have hh : M.has k = true := by simp [Mem.has, h0, h1]
  have he : M.errAt k = 0 := by simp [Mem.errAt, Mem.still, hs, hh]
  have hst : M.store k v = { M.counted with loose := upd M.loose k (some v) } := by simp [Mem.store, he]
  refine ⟨he, by rw [hst]; exact hs, by rw [hst]; rfl, by rw [hst]; rfl, fun j => ?_⟩
  rw [hst]
  have hhj : ({ M.counted with loose := upd M.loose k (some v) } : Mem).has j = M.has j := rfl
  unfold Mem.read
  rw [hhj]
  by_cases e : j = k
  · subst e
    rw [if_pos hh, if_pos rfl]
    show ((upd M.loose j (some v)) j).getD _ = v
    rw [upd_same]; rfl
  · rw [if_neg e]
    show (if M.has j = true then ((upd M.loose k (some v)) j).getD (M.sure.getD j.toNat 0) else 0) = _
    rw [upd_other _ _ e]

/-- Behind the first k of these changes. -/
structure Put (M : Mem) (cs : List Chg) (k : Nat) (M' : Mem) : Prop where
  stops : M'.stops = false
  len : M'.sure.length = 2824
  calls : M'.calls = M.calls + k
  out : ∀ j, (∀ i, i < k → (cs.getD i (0, 0)).1 ≠ j) → M'.read j = M.read j
  at_ : ∀ i, i < k → M'.read (cs.getD i (0, 0)).1 = (cs.getD i (0, 0)).2
/-- The changes are of places that are open, one behind the other. -/
structure Good (S : Vw) (M : Mem) (cs : List Chg) : Prop where
  rise : ∀ i j, i < j → j < cs.length → (cs.getD i (0, 0)).1 < (cs.getD j (0, 0)).1
  open_ : ∀ i, i < cs.length → openI (cs.getD i (0, 0)).1
  val : ∀ i, i < cs.length → (cs.getD i (0, 0)).2 = S.word M (cs.getD i (0, 0)).1
  all : ∀ j, S.word M j ≠ M.read j → ∃ i, i < cs.length ∧ (cs.getD i (0, 0)).1 = j
theorem put_zero {M : Mem} {cs : List Chg} (hs : M.stops = false) (hl : M.sure.length = 2824) : Put M cs 0 M := ⟨hs, hl, rfl, fun _ _ => rfl, fun i hi => absurd hi (Nat.not_lt_zero i)⟩
theorem Put.step {S : Vw} {M : Mem} {cs : List Chg} {k : Nat} {M' : Mem} (h : Put M cs k M') (g : Good S M cs) (hk : k < cs.length) : Put M cs (k + 1) (M'.store (cs.getD k (0, 0)).1 (cs.getD k (0, 0)).2) ∧ M'.errAt (cs.getD k (0, 0)).1 = 0 := by
  have ho := g.open_ k hk
  unfold openI at ho
  obtain ⟨e1, e2, e3, e4, e5⟩ := store_ok h.stops (cs.getD k (0, 0)).2 (k := (cs.getD k (0, 0)).1) (by omega) (by rw [h.len]; omega)
  refine ⟨⟨e2, by rw [e3]; exact h.len, by rw [e4, h.calls]; omega, fun j hj => ?_, fun i hi => ?_⟩, e1⟩
  · rw [e5, if_neg (fun e => hj k (by omega) e.symm)]
    exact h.out j fun i hi => hj i (by omega)
  · rw [e5]
    by_cases e : i = k
    · subst e; rw [if_pos rfl]
    · have := g.rise i k (by omega) hk
      rw [if_neg (by omega)]
      exact h.at_ i (by omega)
theorem Put.reads {S : Vw} {M : Mem} {cs : List Chg} {M' : Mem} (h : Put M cs cs.length M') (g : Good S M cs) (j : Int) : M'.read j = S.word M j := by
  by_cases e : ∃ i, i < cs.length ∧ (cs.getD i (0, 0)).1 = j
  · obtain ⟨i, hi, rfl⟩ := e
    rw [h.at_ i hi, g.val i hi]
  · rw [h.out j fun i hi he => e ⟨i, hi, he⟩]
    by_cases e2 : S.word M j = M.read j
    · exact e2.symm
    · exact absurd (g.all j e2) e
theorem Put.none {S : Vw} {M : Mem} {cs : List Chg} {M' : Mem} (h : Put M cs cs.length M') (g : Good S M cs) {w : World} {V : VLay} {N : Nat} (hv : ViewIs w V S N) : S.changes M' = [] := by
  have hin : ∀ k, (S.own k).isSome = true → 0 ≤ k ∧ k < ((2824 : Nat) : Int) := fun k hk => by
    obtain ⟨v, hv2⟩ := Option.isSome_iff_exists.1 hk
    have := hv.inside k v hv2
    unfold openI at this
    omega
  unfold Vw.changes chgOf
  rw [List.map_eq_nil_iff, List.filter_eq_nil_iff]
  intro x hx
  have hx2 := (mem_placesOf (n := 2824) hin x).1 hx
  obtain ⟨v, hv2⟩ := Option.isSome_iff_exists.1 hx2
  have e1 : S.word M' x = v := by simp [Vw.word, hv2]
  have e2 : S.word M x = v := by simp [Vw.word, hv2]
  rw [e1, h.reads g x, e2]
  simp
theorem good_changes {S : Vw} {M : Mem} {w : World} {V : VLay} {N : Nat} (hv : ViewIs w V S N) : Good S M (S.changes M) := by
  have hin : ∀ k, (S.own k).isSome = true → 0 ≤ k ∧ k < ((2824 : Nat) : Int) := fun k hk => by
    obtain ⟨v, hv2⟩ := Option.isSome_iff_exists.1 hk
    have := hv.inside k v hv2
    unfold openI at this
    omega
  have hr := placesOf_rising (fun k => (S.own k).isSome) 2824
  obtain ⟨ks, hks⟩ : ∃ ks, ((S.places).filter fun x => decide (S.word M x ≠ M.read x)) = ks := ⟨_, rfl⟩
  have hcs : S.changes M = ks.map fun x => (x, S.word M x) := by unfold Vw.changes chgOf; rw [hks]
  have hkr : ks.Pairwise (· < ·) := by rw [← hks]; exact hr.filter _
  have hmem : ∀ x, x ∈ ks ↔ (S.own x).isSome = true ∧ S.word M x ≠ M.read x := fun x => by
    rw [← hks, List.mem_filter, show S.places = placesOf (fun k => (S.own k).isSome) 2824 from rfl, mem_placesOf hin]
    simp
  have hg : ∀ i, i < ks.length → (S.changes M).getD i (0, 0) = (ks.getD i 0, S.word M (ks.getD i 0)) := fun i hi => by rw [hcs]; simp [hi]
  have hl : (S.changes M).length = ks.length := by rw [hcs]; simp
  refine ⟨fun i j hij hj => ?_, fun i hi => ?_, fun i hi => ?_, fun j hj => ?_⟩
  · rw [hl] at hj
    rw [hg i (by omega), hg j hj]
    have := List.pairwise_iff_getElem.1 hkr i j (by omega) hj hij
    simpa [show i < ks.length by omega, hj] using this
  · rw [hl] at hi
    rw [hg i hi]
    have hm : ks.getD i 0 ∈ ks := by simp [hi]
    obtain ⟨v, hv2⟩ := Option.isSome_iff_exists.1 ((hmem _).1 hm).1
    exact hv.inside _ v hv2
  · rw [hl] at hi
    rw [hg i hi]
  · have hj2 : (S.own j).isSome = true := by
      cases e : S.own j with
      | none => exact absurd (by simp [Vw.word, e]) hj
      | some v => rfl
    obtain ⟨i, hi, e⟩ := List.mem_iff_getElem.1 ((hmem j).2 ⟨hj2, hj⟩)
    refine ⟨i, by rw [hl]; exact hi, ?_⟩
    rw [hg i hi]
    simpa [hi] using e
theorem changes_len (S : Vw) (M : Mem) : (S.changes M).length ≤ 2824 := by
  unfold Vw.changes
  exact Nat.le_trans (chgOf_len _ _ _) (placesOf_len _ _)

end Go.Proofs.YtdjnkibnnjobpaaGreat
