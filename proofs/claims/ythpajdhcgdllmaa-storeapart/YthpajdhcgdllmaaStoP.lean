/- Two views of one memory, with the rows of what each has taken: what they are in the world, and that nothing is taken twice. -/
import Derived.Test.YthpajdhcgdllmaaStoL
namespace Go.Proofs.Ythpajdhcgdllmaa
open Go.RowKit Go.Maps Go.ChangeMaps
set_option linter.unusedVariables false

def setF {α : Type} (f : Nat → α) (k : Nat) (v : α) : Nat → α := fun i => if i = k then v else f i
theorem setF_same {α : Type} (f : Nat → α) (k : Nat) (v : α) : setF f k v k = v := by simp [setF]
theorem setF_other {α : Type} (f : Nat → α) {k j : Nat} (v : α) (h : j ≠ k) : setF f k v j = f j := by simp [setF, h]
/-- No block is of two of these. -/
def Apart (F : Nat → List Nat) : Prop := ∀ i j, i ≠ j → ∀ z ∈ F i, z ∉ F j
theorem Apart.upd {F : Nat → List Nat} {G : Nat} (h : Apart F) (hF : ∀ i, ∀ z ∈ F i, z < G) {k : Nat} {Y : List Nat} (hY : ∀ z ∈ Y, z ∈ F k ∨ G ≤ z) : Apart (setF F k Y) := by
  intro i j hij z hz hz2
  by_cases ei : i = k
  · subst ei
    rw [setF_same] at hz
    rw [setF_other _ _ (Ne.symm hij)] at hz2
    rcases hY z hz with e | e
    · exact h i j hij z e hz2
    · have := hF j z hz2; omega
  · rw [setF_other _ _ ei] at hz
    by_cases ej : j = k
    · subst ej
      rw [setF_same] at hz2
      rcases hY z hz2 with e | e
      · exact h i j hij z hz e
      · have := hF i z hz; omega
    · rw [setF_other _ _ ej] at hz2
      exact h i j hij z hz hz2

def duoF (V : Nat → VLay) (L : Lay) (b4 b5 b6 : Nat) (x y : Nat → Value) : Nat → List Nat
  | 0 => (V 0).all
  | 1 => (V 1).all
  | 2 => L.blocks
  | 3 => [b4]
  | 4 => [b5]
  | 5 => [b6]
  | 6 => (x 0).ownBlock.toList
  | 7 => (x 1).ownBlock.toList
  | 8 => (y 0).ownBlock.toList
  | 9 => (y 1).ownBlock.toList
  | _ => []
theorem duoF_V {V : Nat → VLay} {L : Lay} {b4 b5 b6 : Nat} {x y : Nat → Value} {k : Nat} (hk : k < 2) (V' : VLay) : duoF (setF V k V') L b4 b5 b6 x y = setF (duoF V L b4 b5 b6 x y) k V'.all := by
  funext i
  rcases (by omega : k = 0 ∨ k = 1) with rfl | rfl
  · match i with
    | 0 => rfl | 1 => rfl | 2 => rfl | 3 => rfl | 4 => rfl | 5 => rfl | 6 => rfl | 7 => rfl | 8 => rfl | 9 => rfl
    | n + 10 => rfl
  · match i with
    | 0 => rfl | 1 => rfl | 2 => rfl | 3 => rfl | 4 => rfl | 5 => rfl | 6 => rfl | 7 => rfl | 8 => rfl | 9 => rfl
    | n + 10 => rfl
theorem duoF_x {V : Nat → VLay} {L : Lay} {b4 b5 b6 : Nat} {x y : Nat → Value} {k : Nat} (hk : k < 2) (v : Value) : duoF V L b4 b5 b6 (setF x k v) y = setF (duoF V L b4 b5 b6 x y) (6 + k) v.ownBlock.toList := by
  funext i
  rcases (by omega : k = 0 ∨ k = 1) with rfl | rfl
  · match i with
    | 0 => rfl | 1 => rfl | 2 => rfl | 3 => rfl | 4 => rfl | 5 => rfl | 6 => rfl | 7 => rfl | 8 => rfl | 9 => rfl
    | n + 10 => rfl
  · match i with
    | 0 => rfl | 1 => rfl | 2 => rfl | 3 => rfl | 4 => rfl | 5 => rfl | 6 => rfl | 7 => rfl | 8 => rfl | 9 => rfl
    | n + 10 => rfl
theorem duoF_y {V : Nat → VLay} {L : Lay} {b4 b5 b6 : Nat} {x y : Nat → Value} {k : Nat} (hk : k < 2) (v : Value) : duoF V L b4 b5 b6 x (setF y k v) = setF (duoF V L b4 b5 b6 x y) (8 + k) v.ownBlock.toList := by
  funext i
  rcases (by omega : k = 0 ∨ k = 1) with rfl | rfl
  · match i with
    | 0 => rfl | 1 => rfl | 2 => rfl | 3 => rfl | 4 => rfl | 5 => rfl | 6 => rfl | 7 => rfl | 8 => rfl | 9 => rfl
    | n + 10 => rfl
  · match i with
    | 0 => rfl | 1 => rfl | 2 => rfl | 3 => rfl | 4 => rfl | 5 => rfl | 6 => rfl | 7 => rfl | 8 => rfl | 9 => rfl
    | n + 10 => rfl
theorem duoF_k {V : Nat → VLay} {L : Lay} {b4 b5 b6 : Nat} {x y : Nat → Value} {k : Nat} (hk : k < 2) : duoF V L b4 b5 b6 x y k = (V k).all := by
  rcases (by omega : k = 0 ∨ k = 1) with rfl | rfl <;> rfl
theorem duoF_6 {V : Nat → VLay} {L : Lay} {b4 b5 b6 : Nat} {x y : Nat → Value} {k : Nat} (hk : k < 2) : duoF V L b4 b5 b6 x y (6 + k) = (x k).ownBlock.toList := by
  rcases (by omega : k = 0 ∨ k = 1) with rfl | rfl <;> rfl
theorem duoF_8 {V : Nat → VLay} {L : Lay} {b4 b5 b6 : Nat} {x y : Nat → Value} {k : Nat} (hk : k < 2) : duoF V L b4 b5 b6 x y (8 + k) = (y k).ownBlock.toList := by
  rcases (by omega : k = 0 ∨ k = 1) with rfl | rfl <;> rfl
theorem ownsRow_keep {w w' : World} {base : Nat} {e : TypeId} {s : Nat} {v : Value} {n : Nat} {xs : List Value} (h : w.ownsRow base e s v n xs) (hb : ∀ g ∈ v.ownBlock.toList, w'.heap[g]? = w.heap[g]?) : w'.ownsRow base e s v n xs := by
  obtain ⟨h0, h1⟩ := h
  refine ⟨h0, ?_⟩
  rcases h1 with h1 | ⟨g, cap, cur, rfl, h2, h3, h4⟩
  · exact .inl h1
  · exact .inr ⟨g, cap, cur, rfl, h2, (hb g (by simp [Value.ownBlock])).trans h3, h4⟩

/-- Two views, and in three arrays their pointers, the rows of blocks and of numbers that each has taken. -/
structure Duo (w0 w : World) (V : Nat → VLay) (S : Nat → Vw) (N : Nat) (L : Lay) (b4 b5 b6 : Nat) (x y : Nat → Value) (B C : Nat → List Int) : Prop where
  bel : Below w0.heap.size w0 w
  view : ∀ k, k < 2 → ViewIs w (V k) (S k) N
  mem : MemIs w L M0
  mb : ∀ k, k < 2 → (V k).mb = L.mb
  arr4 : w.heap[b4]? = some (.cells #[.pointer (some ⟨(V 0).vb, 0, none⟩), .pointer (some ⟨(V 1).vb, 0, none⟩)] 29 (0, 0))
  arr5 : w.heap[b5]? = some (.cells #[x 0, x 1] 32 (0, 0))
  arr6 : w.heap[b6]? = some (.cells #[y 0, y 1] 32 (0, 0))
  rowB : ∀ k, k < 2 → w.ownsRow w0.heap.size 3 1 (x k) (B k).length ((B k).map (Value.int .i64))
  rowC : ∀ k, k < 2 → w.ownsRow w0.heap.size 3 1 (y k) (C k).length ((C k).map (Value.int .i64))
  apart : Apart (duoF V L b4 b5 b6 x y)
  low : ∀ i, ∀ z ∈ duoF V L b4 b5 b6 x y i, w0.heap.size ≤ z ∧ z < w.heap.size
section
variable {w0 w w1 : World} {V : Nat → VLay} {S : Nat → Vw} {N : Nat} {L : Lay} {b4 b5 b6 : Nat} {x y : Nat → Value} {B C : Nat → List Int}
theorem Duo.keep (D : Duo w0 w V S N L b4 b5 b6 x y B C) {X : List Nat} (ho : Only X w w1) {i : Nat} (hX : ∀ z ∈ X, z ∈ duoF V L b4 b5 b6 x y i) {j : Nat} (hj : j ≠ i) : ∀ z ∈ duoF V L b4 b5 b6 x y j, w1.heap[z]? = w.heap[z]? := fun z hz =>
  ho.block z (D.low j z hz).2 fun h => D.apart j i hj z hz (hX z h)
theorem Duo.on (D : Duo w0 w V S N L b4 b5 b6 x y B C) {k : Nat} (hk : k < 2) : On w (V k) (S k) N L M0 :=
  ⟨D.view k hk, D.mem, D.mb k hk, fun b hb hb2 => D.apart 2 k (by omega) b hb (by rw [duoF_k hk]; exact hb2)⟩
theorem Duo.viewStep (D : Duo w0 w V S N L b4 b5 b6 x y B C) {k : Nat} (hk : k < 2) {V' : VLay} {S' : Vw} {N' : Nat} (hv : ViewIs w1 V' S' N') (hN : N ≤ N') {X : List Nat} (ho : Only X w w1) (hX : ∀ z ∈ X, z ∈ (V k).all) (hvb : V'.vb = (V k).vb) (hmb : V'.mb = (V k).mb) (hall : ∀ z ∈ V'.all, z ∈ (V k).all ∨ w.heap.size ≤ z) :
    Duo w0 w1 (setF V k V') (setF S k S') N' L b4 b5 b6 x y B C := by
  have hX2 : ∀ z ∈ X, z ∈ duoF V L b4 b5 b6 x y k := by rw [duoF_k hk]; exact hX
  have K := fun j (hj : j ≠ k) => D.keep ho hX2 hj
  have hA := D.apart.upd (fun i z hz => (D.low i z hz).2) (k := k) (Y := V'.all) (by rw [duoF_k hk]; exact hall)
  rw [← duoF_V hk] at hA
  refine ⟨D.bel.trans (ho.below D.bel.size fun z hz => (D.low k z (hX2 z hz)).1), fun j hj => ?_, D.mem.of_blocks fun z hz _ => K 2 (by omega) z hz, fun j hj => ?_, ?_, (K 4 (by omega) b5 (by simp [duoF])).trans D.arr5, (K 5 (by omega) b6 (by simp [duoF])).trans D.arr6, fun j hj => ownsRow_keep (D.rowB j hj) ?_, fun j hj => ownsRow_keep (D.rowC j hj) ?_, hA, fun i z hz => ?_⟩
  · by_cases e : j = k
    · subst e; rw [setF_same, setF_same]; exact hv
    · rw [setF_other _ _ e, setF_other _ _ e]
      exact ((D.view j hj).mono hN).of_blocks fun z hz _ => K j e z (by rw [duoF_k hj]; exact hz)
  · by_cases e : j = k
    · subst e; rw [setF_same]; exact hmb.trans (D.mb j hj)
    · rw [setF_other _ _ e]; exact D.mb j hj
  · have e0 : (setF V k V' 0).vb = (V 0).vb := by
      by_cases e : 0 = k
      · rw [← e, setF_same, hvb, ← e]
      · rw [setF_other _ _ e]
    have e1 : (setF V k V' 1).vb = (V 1).vb := by
      by_cases e : 1 = k
      · rw [← e, setF_same, hvb, ← e]
      · rw [setF_other _ _ e]
    rw [e0, e1]
    exact (K 3 (by omega) b4 (by simp [duoF])).trans D.arr4
  · exact fun g hg => K (6 + j) (by omega) g (by rw [duoF_6 hj]; exact hg)
  · exact fun g hg => K (8 + j) (by omega) g (by rw [duoF_8 hj]; exact hg)
  · rw [duoF_V hk] at hz
    by_cases e : i = k
    · subst e
      rw [setF_same] at hz
      refine ⟨?_, hv.all_lt z hz⟩
      rcases hall z hz with q | q
      · exact (D.low i z (by rw [duoF_k hk]; exact q)).1
      · have := D.bel.size; omega
    · rw [setF_other _ _ e] at hz
      have := D.low i z hz
      have := ho.size
      omega
theorem Duo.later (D : Duo w0 w V S N L b4 b5 b6 x y B C) (hb : Below w.heap.size w w1) : Duo w0 w1 V S N L b4 b5 b6 x y B C := by
  have K : ∀ j, ∀ z ∈ duoF V L b4 b5 b6 x y j, w1.heap[z]? = w.heap[z]? := fun j z hz => hb.block z (D.low j z hz).2
  exact ⟨D.bel.trans (hb.mono D.bel.size), fun j hj => (D.view j hj).later hb, D.mem.later hb, D.mb, (K 3 b4 (by simp [duoF])).trans D.arr4, (K 4 b5 (by simp [duoF])).trans D.arr5, (K 5 b6 (by simp [duoF])).trans D.arr6,
    fun j hj => ownsRow_keep (D.rowB j hj) fun g hg => K (6 + j) g (by rw [duoF_6 hj]; exact hg), fun j hj => ownsRow_keep (D.rowC j hj) fun g hg => K (8 + j) g (by rw [duoF_8 hj]; exact hg), D.apart, fun i z hz => by have := D.low i z hz; have := hb.size; omega⟩
theorem Duo.drew (D : Duo w0 w V S N L b4 b5 b6 x y B C) : Duo w0 w.drew V S N L b4 b5 b6 x y B C := D.later (Below.refl _ _).drew
/-- One more is appended to a row of blocks. -/
theorem Duo.pushX (D : Duo w0 w V S N L b4 b5 b6 x y B C) {k : Nat} (hk : k < 2) {o : Obj} {v : Value} {q : Int} (hr : w1.ownsRow w0.heap.size 3 1 v ((B k).length + 1) ((B k).map (Value.int .i64) ++ [.int .i64 q])) (hg : (w.alloc o).grownBy w1 (x k).ownBlock) (hown : v.ownBlock = (x k).ownBlock ∨ v.ownBlock = some (w.alloc o).heap.size) :
    Duo w0 (w1.setCell ⟨b5, k, none⟩ v) V S N L b4 b5 b6 (setF x k v) y (setF B k (B k ++ [q])) C := by
  have hsz : (w.alloc o).heap.size = w.heap.size + 1 := by simp
  have ho : Only (x k).ownBlock.toList w w1 := ((Only.refl _ _).alloc o).grown hg (fun j e => by simp [e])
  have hX2 : ∀ z ∈ (x k).ownBlock.toList, z ∈ duoF V L b4 b5 b6 x y (6 + k) := by rw [duoF_6 hk]; exact fun z h => h
  have hb5 : b5 ∈ duoF V L b4 b5 b6 x y 4 := by simp [duoF]
  have hnew : ∀ z ∈ v.ownBlock.toList, z ∈ duoF V L b4 b5 b6 x y (6 + k) ∨ w.heap.size ≤ z := fun z hz => by
    rcases hown with e | e
    · rw [e] at hz; exact .inl (hX2 z hz)
    · rw [e] at hz; simp at hz; exact .inr (by omega)
  have K : ∀ j, j ≠ 6 + k → j ≠ 4 → ∀ z ∈ duoF V L b4 b5 b6 x y j, (w1.setCell ⟨b5, k, none⟩ v).heap[z]? = w.heap[z]? := fun j hj h4 z hz => by
    rw [Below.heap_setCell _ _ _ _ (fun e : z = b5 => D.apart j 4 h4 z hz (e ▸ hb5))]
    exact D.keep ho hX2 hj z hz
  have hA := D.apart.upd (fun i z hz => (D.low i z hz).2) (k := 6 + k) (Y := v.ownBlock.toList) hnew
  rw [← duoF_x hk] at hA
  have h5 : w1.heap[b5]? = some (.cells #[x 0, x 1] 32 (0, 0)) := (D.keep ho hX2 (by omega) b5 hb5).trans D.arr5
  have h5' := heap_setCell_same w1 b5 k _ _ v h5
  have hs1 : (w1.setCell ⟨b5, k, none⟩ v).heap.size = w1.heap.size := by simp [World.setCell]
  have hvk : ∀ z ∈ v.ownBlock.toList, z ≠ b5 := fun z hz e => by
    subst e
    rcases hnew z hz with q | q
    · exact D.apart (6 + k) 4 (by omega) z q hb5
    · have := (D.low 4 z hb5).2; omega
  refine ⟨(D.bel.trans (ho.below D.bel.size fun z hz => (D.low _ z (hX2 z hz)).1)).setCell (p := ⟨b5, k, none⟩) (D.low 4 b5 hb5).1 _, fun j hj => (D.view j hj).of_blocks fun z hz _ => K j (by omega) (by omega) z (by rw [duoF_k hj]; exact hz), D.mem.of_blocks fun z hz _ => K 2 (by omega) (by omega) z hz, D.mb, (K 3 (by omega) (by omega) b4 (by simp [duoF])).trans D.arr4, ?_, (K 5 (by omega) (by omega) b6 (by simp [duoF])).trans D.arr6, fun j hj => ?_, fun j hj => ownsRow_keep (D.rowC j hj) (fun g hg => K (8 + j) (by omega) (by omega) g (by rw [duoF_8 hj]; exact hg)), hA, fun i z hz => ?_⟩
  · rw [h5']
    rcases (by omega : k = 0 ∨ k = 1) with rfl | rfl <;> rfl
  · by_cases e : j = k
    · subst e
      rw [setF_same, setF_same, List.length_append, List.map_append]
      exact ownsRow_keep hr fun g hg => Below.heap_setCell _ _ _ _ (hvk g hg)
    · rw [setF_other _ _ e, setF_other _ _ e]
      exact ownsRow_keep (D.rowB j hj) fun g hg => K (6 + j) (by omega) (by omega) g (by rw [duoF_6 hj]; exact hg)
  · rw [duoF_x hk] at hz
    rw [hs1]
    by_cases e : i = 6 + k
    · subst e
      rw [setF_same] at hz
      refine ⟨?_, ?_⟩
      · rcases hnew z hz with q | q
        · exact (D.low _ z q).1
        · have := D.bel.size; omega
      · obtain ⟨_, hr2⟩ := hr
        rcases hr2 with ⟨rfl, _⟩ | ⟨g, cap, cur, rfl, _, h3, _⟩
        · simp [Value.ownBlock] at hz
        · simp [Value.ownBlock] at hz
          subst hz
          exact (Array.getElem?_eq_some_iff.1 h3).1
    · rw [setF_other _ _ e] at hz
      have := D.low i z hz
      have := ho.size
      omega
/-- One more is appended to a row of numbers. -/
theorem Duo.pushY (D : Duo w0 w V S N L b4 b5 b6 x y B C) {k : Nat} (hk : k < 2) {o : Obj} {v : Value} {q : Int} (hr : w1.ownsRow w0.heap.size 3 1 v ((C k).length + 1) ((C k).map (Value.int .i64) ++ [.int .i64 q])) (hg : (w.alloc o).grownBy w1 (y k).ownBlock) (hown : v.ownBlock = (y k).ownBlock ∨ v.ownBlock = some (w.alloc o).heap.size) :
    Duo w0 (w1.setCell ⟨b6, k, none⟩ v) V S N L b4 b5 b6 x (setF y k v) B (setF C k (C k ++ [q])) := by
  have hsz : (w.alloc o).heap.size = w.heap.size + 1 := by simp
  have ho : Only (y k).ownBlock.toList w w1 := ((Only.refl _ _).alloc o).grown hg (fun j e => by simp [e])
  have hX2 : ∀ z ∈ (y k).ownBlock.toList, z ∈ duoF V L b4 b5 b6 x y (8 + k) := by rw [duoF_8 hk]; exact fun z h => h
  have hb6 : b6 ∈ duoF V L b4 b5 b6 x y 5 := by simp [duoF]
  have hnew : ∀ z ∈ v.ownBlock.toList, z ∈ duoF V L b4 b5 b6 x y (8 + k) ∨ w.heap.size ≤ z := fun z hz => by
    rcases hown with e | e
    · rw [e] at hz; exact .inl (hX2 z hz)
    · rw [e] at hz; simp at hz; exact .inr (by omega)
  have K : ∀ j, j ≠ 8 + k → j ≠ 5 → ∀ z ∈ duoF V L b4 b5 b6 x y j, (w1.setCell ⟨b6, k, none⟩ v).heap[z]? = w.heap[z]? := fun j hj h4 z hz => by
    rw [Below.heap_setCell _ _ _ _ (fun e : z = b6 => D.apart j 5 h4 z hz (e ▸ hb6))]
    exact D.keep ho hX2 hj z hz
  have hA := D.apart.upd (fun i z hz => (D.low i z hz).2) (k := 8 + k) (Y := v.ownBlock.toList) hnew
  rw [← duoF_y hk] at hA
  have h5 : w1.heap[b6]? = some (.cells #[y 0, y 1] 32 (0, 0)) := (D.keep ho hX2 (by omega) b6 hb6).trans D.arr6
  have h5' := heap_setCell_same w1 b6 k _ _ v h5
  have hs1 : (w1.setCell ⟨b6, k, none⟩ v).heap.size = w1.heap.size := by simp [World.setCell]
  have hvk : ∀ z ∈ v.ownBlock.toList, z ≠ b6 := fun z hz e => by
    subst e
    rcases hnew z hz with q | q
    · exact D.apart (8 + k) 5 (by omega) z q hb6
    · have := (D.low 5 z hb6).2; omega
  refine ⟨(D.bel.trans (ho.below D.bel.size fun z hz => (D.low _ z (hX2 z hz)).1)).setCell (p := ⟨b6, k, none⟩) (D.low 5 b6 hb6).1 _, fun j hj => (D.view j hj).of_blocks fun z hz _ => K j (by omega) (by omega) z (by rw [duoF_k hj]; exact hz), D.mem.of_blocks fun z hz _ => K 2 (by omega) (by omega) z hz, D.mb, (K 3 (by omega) (by omega) b4 (by simp [duoF])).trans D.arr4, (K 4 (by omega) (by omega) b5 (by simp [duoF])).trans D.arr5, ?_, fun j hj => ownsRow_keep (D.rowB j hj) (fun g hg => K (6 + j) (by omega) (by omega) g (by rw [duoF_6 hj]; exact hg)), fun j hj => ?_, hA, fun i z hz => ?_⟩
  · rw [h5']
    rcases (by omega : k = 0 ∨ k = 1) with rfl | rfl <;> rfl
  · by_cases e : j = k
    · subst e
      rw [setF_same, setF_same, List.length_append, List.map_append]
      exact ownsRow_keep hr fun g hg => Below.heap_setCell _ _ _ _ (hvk g hg)
    · rw [setF_other _ _ e, setF_other _ _ e]
      exact ownsRow_keep (D.rowC j hj) fun g hg => K (8 + j) (by omega) (by omega) g (by rw [duoF_8 hj]; exact hg)
  · rw [duoF_y hk] at hz
    rw [hs1]
    by_cases e : i = 8 + k
    · subst e
      rw [setF_same] at hz
      refine ⟨?_, ?_⟩
      · rcases hnew z hz with q | q
        · exact (D.low _ z q).1
        · have := D.bel.size; omega
      · obtain ⟨_, hr2⟩ := hr
        rcases hr2 with ⟨rfl, _⟩ | ⟨g, cap, cur, rfl, _, h3, _⟩
        · simp [Value.ownBlock] at hz
        · simp [Value.ownBlock] at hz
          subst hz
          exact (Array.getElem?_eq_some_iff.1 h3).1
    · rw [setF_other _ _ e] at hz
      have := D.low i z hz
      have := ho.size
      omega

end
/-- The numbers of a row, as cells. -/
theorem row_ints {w : World} {base : Nat} {v : Value} {l : List Int} (h : w.ownsRow base 3 1 v l.length (l.map (Value.int .i64))) : ∃ a c, v = .slice a l.length c ∧ l.length ≤ c ∧ IntsAt w a l.length (fun i => l.getD i 0) := by
  have h' := h
  obtain ⟨h0, h1⟩ := h
  rcases h1 with ⟨rfl, h2⟩ | ⟨g, cap, cur, rfl, h2, h3, h4, h5⟩
  · exact ⟨none, 0, by rw [h2], by omega, .inl h2⟩
  · refine ⟨_, cap, rfl, h4, .inr ⟨g, 0, rfl, (Array.getElem?_eq_some_iff.1 h3).1, fun i hi => ?_⟩⟩
    rw [Nat.zero_add, h'.cellAt i (by omega)]
    simp [hi]
theorem named_mem {l : List Int} {z : Int} : namedI (fun i => l.getD i 0) l.length z = decide (z ∈ l) := by
  unfold namedI
  have : (∃ i, i < l.length ∧ l.getD i 0 = z) ↔ z ∈ l := by
    rw [List.mem_iff_getElem]
    constructor
    · rintro ⟨i, hi, e⟩
      exact ⟨i, hi, by simpa [hi] using e⟩
    · rintro ⟨i, hi, e⟩
      exact ⟨i, hi, by simpa [hi] using e⟩
  simp only [this]

/-- What two views have taken is what their words say; nothing is taken twice. -/
structure Took (S : Nat → Vw) (B C : Nat → List Int) : Prop where
  own : ∀ k, k < 2 → ∀ j : Int, 0 ≤ j → j < 96 → ((S k).word M0 (200 + j) = 0 ↔ j ∉ B k)
  card : ∀ k, k < 2 → ∀ n : Int, 2 ≤ n → n < 24 → ((S k).word M0 (8 + 8 * n) % 256 = 0 ↔ n ∉ C k)
  bIn : ∀ k, k < 2 → ∀ z ∈ B k, 0 ≤ z ∧ z < 96
  cIn : ∀ k, k < 2 → ∀ z ∈ C k, 2 ≤ z ∧ z < 24
  bNd : ∀ k, k < 2 → (B k).Nodup
  cNd : ∀ k, k < 2 → (C k).Nodup
  bAp : ∀ k j, k < 2 → j < 2 → k ≠ j → ∀ z ∈ B k, z ∉ B j
  cAp : ∀ k j, k < 2 → j < 2 → k ≠ j → ∀ z ∈ C k, z ∉ C j
theorem len_le : ∀ (n : Nat) (a : Int) (l : List Int), l.Nodup → (∀ z ∈ l, a ≤ z ∧ z < a + (n : Int)) → l.length ≤ n := by
  intro n
  induction n with
  | zero =>
    intro a l _ h
    match l with
    | [] => exact Nat.le_refl 0
    | z :: l => have := h z (by simp); omega
  | succ n ih =>
    intro a l hn h
    have := ih a (l.erase (a + (n : Int))) (hn.erase _) fun z hz => by
      have h1 := h z (List.mem_of_mem_erase hz)
      have h2 : z ≠ a + (n : Int) := fun e => by subst e; exact (hn.not_mem_erase) hz
      omega
    have h3 := List.length_erase_le (a := a + (n : Int)) (l := l)
    by_cases e : a + (n : Int) ∈ l
    · rw [List.length_erase_of_mem e] at this; omega
    · rw [List.erase_of_not_mem e] at this; omega
theorem le_len : ∀ (n : Nat) (a : Int) (l : List Int), (∀ z, a ≤ z → z < a + (n : Int) → z ∈ l) → n ≤ l.length := by
  intro n
  induction n with
  | zero => intro a l _; exact Nat.zero_le _
  | succ n ih =>
    intro a l h
    have e : a + (n : Int) ∈ l := h _ (by omega) (by omega)
    have := ih a (l.erase (a + (n : Int))) fun z h1 h2 => (List.mem_erase_of_ne (by omega)).2 (h z h1 (by omega))
    rw [List.length_erase_of_mem e] at this
    have : 0 < l.length := List.length_pos_of_mem e
    omega
section
variable {S : Nat → Vw} {B C : Nat → List Int}
theorem Took.lenB (T : Took S B C) {k : Nat} (hk : k < 2) : (B k).length ≤ 96 := len_le 96 0 _ (T.bNd k hk) fun z hz => by have := T.bIn k hk z hz; omega
theorem Took.lenC (T : Took S B C) {k : Nat} (hk : k < 2) : (C k).length ≤ 22 := len_le 22 2 _ (T.cNd k hk) fun z hz => by have := T.cIn k hk z hz; omega
theorem took_new : Took (fun _ => Vw.new) (fun _ => []) (fun _ => []) := by
  have hw : ∀ j : Int, 2 ≤ j → j < 2824 → Vw.new.word M0 j = 0 := fun j h0 h1 => by
    unfold Vw.word Vw.new
    simpa using M0_zero j h0 h1
  refine ⟨fun k _ j h0 h1 => ?_, fun k _ n h0 h1 => ?_, fun k _ z hz => by simp at hz, fun k _ z hz => by simp at hz, fun k _ => List.nodup_nil, fun k _ => List.nodup_nil, fun k j _ _ _ z hz => by simp at hz, fun k j _ _ _ z hz => by simp at hz⟩
  · rw [hw _ (by omega) (by omega)]; simp
  · rw [hw _ (by omega) (by omega)]; simp
/-- Only words count. -/
theorem Took.same (T : Took S B C) {S' : Nat → Vw} (h : ∀ k, k < 2 → ∀ j, (S' k).word M0 j = (S k).word M0 j) : Took S' B C :=
  ⟨fun k hk j h0 h1 => by rw [h k hk]; exact T.own k hk j h0 h1, fun k hk n h0 h1 => by rw [h k hk]; exact T.card k hk n h0 h1, T.bIn, T.cIn, T.bNd, T.cNd, T.bAp, T.cAp⟩
theorem nodup_snoc {l : List Int} {q : Int} (h : l.Nodup) (hq : q ∉ l) : (l ++ [q]).Nodup := by
  rw [List.nodup_append]
  exact ⟨h, by simp, fun a ha b hb => by simp at hb; subst hb; exact fun e => hq (e ▸ ha)⟩
theorem Took.take (T : Took S B C) {k q : Nat} (hk : k < 2) (hq : q < 96) (h : ∀ j, j < 2 → (q : Int) ∉ B j) : Took (setF S k ((S k).give q 1)) (setF B k (B k ++ [(q : Int)])) C := by
  refine ⟨fun j hj z h0 h1 => ?_, fun j hj n h0 h1 => ?_, fun j hj z hz => ?_, T.cIn, fun j hj => ?_, T.cNd, fun i j hi hj hij z hz hz2 => ?_, T.cAp⟩
  · by_cases e : j = k
    · subst e
      rw [setF_same, setF_same, give_word _ _ _ _ _ (by omega) (by omega) (by omega)]
      by_cases e2 : z = (q : Int)
      · subst e2; simp
      · rw [if_neg (by omega), T.own j hj z h0 h1]; simp [e2]
    · rw [setF_other _ _ e, setF_other _ _ e]; exact T.own j hj z h0 h1
  · by_cases e : j = k
    · subst e
      rw [setF_same, give_word _ _ _ _ _ (by omega) (by omega) (by omega), if_neg (by omega)]; exact T.card j hj n h0 h1
    · rw [setF_other _ _ e]; exact T.card j hj n h0 h1
  · by_cases e : j = k
    · subst e
      rw [setF_same] at hz
      rcases List.mem_append.1 hz with e | e
      · exact T.bIn j hj z e
      · simp at e; omega
    · rw [setF_other _ _ e] at hz; exact T.bIn j hj z hz
  · by_cases e : j = k
    · subst e; rw [setF_same]; exact nodup_snoc (T.bNd j hj) (h j hj)
    · rw [setF_other _ _ e]; exact T.bNd j hj
  · by_cases ei : i = k
    · subst ei
      rw [setF_same] at hz
      rw [setF_other _ _ (Ne.symm hij)] at hz2
      rcases List.mem_append.1 hz with e | e
      · exact T.bAp i j hi hj hij z e hz2
      · simp at e; subst e; exact h j hj hz2
    · rw [setF_other _ _ ei] at hz
      by_cases ej : j = k
      · subst ej
        rw [setF_same] at hz2
        rcases List.mem_append.1 hz2 with e | e
        · exact T.bAp i j hi hj hij z hz e
        · simp at e; subst e; exact h i hi hz
      · rw [setF_other _ _ ej] at hz2; exact T.bAp i j hi hj hij z hz hz2
theorem Took.node (T : Took S B C) {k q : Nat} {v : Int} (hk : k < 2) (hq2 : 2 ≤ q) (hq : q < 24) (h : ∀ j, j < 2 → (q : Int) ∉ C j) : Took (setF S k ((S k).setC q 2 1 0 v (-1) (-1) (-1) (-1) (-1) (-1))) B (setF C k (C k ++ [(q : Int)])) := by
  refine ⟨fun j hj z h0 h1 => ?_, fun j hj n h0 h1 => ?_, T.bIn, fun j hj z hz => ?_, T.bNd, fun j hj => ?_, T.bAp, fun i j hi hj hij z hz hz2 => ?_⟩
  · by_cases e : j = k
    · subst e
      rw [setF_same, setC_out _ _ _ _ _ _ _ _ _ _ _ _ _ _ (by omega)]; exact T.own j hj z h0 h1
    · rw [setF_other _ _ e]; exact T.own j hj z h0 h1
  · by_cases e : j = k
    · subst e
      rw [setF_same, setF_same]
      by_cases e2 : n = (q : Int)
      · subst e2
        have := setC_card (S j) M0 q 2 1 0 v (-1) (-1) (-1) (-1) (-1) (-1) 0 (by omega)
        simp only [Int.add_zero, Int.cast_ofNat_Int] at this
        rw [this, show cardRow 2 1 0 v (-1) (-1) (-1) (-1) (-1) (-1) 0 = 258 from rfl]
        simp
      · rw [setC_out _ _ _ _ _ _ _ _ _ _ _ _ _ _ (by omega), T.card j hj n h0 h1]; simp [e2]
    · rw [setF_other _ _ e, setF_other _ _ e]; exact T.card j hj n h0 h1
  · by_cases e : j = k
    · subst e
      rw [setF_same] at hz
      rcases List.mem_append.1 hz with e | e
      · exact T.cIn j hj z e
      · simp at e; omega
    · rw [setF_other _ _ e] at hz; exact T.cIn j hj z hz
  · by_cases e : j = k
    · subst e; rw [setF_same]; exact nodup_snoc (T.cNd j hj) (h j hj)
    · rw [setF_other _ _ e]; exact T.cNd j hj
  · by_cases ei : i = k
    · subst ei
      rw [setF_same] at hz
      rw [setF_other _ _ (Ne.symm hij)] at hz2
      rcases List.mem_append.1 hz with e | e
      · exact T.cAp i j hi hj hij z e hz2
      · simp at e; subst e; exact h j hj hz2
    · rw [setF_other _ _ ei] at hz
      by_cases ej : j = k
      · subst ej
        rw [setF_same] at hz2
        rcases List.mem_append.1 hz2 with e | e
        · exact T.cAp i j hi hj hij z hz e
        · simp at e; subst e; exact h i hi hz
      · rw [setF_other _ _ ej] at hz2; exact T.cAp i j hi hj hij z hz hz2
/-- Which block is fresh for a view that leaves alone what the other one took. -/
theorem Took.fresh (T : Took S B C) {k j : Nat} (hk : k < 2) (hj : j < 2) {f : Int → Bool} (z : Int) (h0 : 0 ≤ z) (h1 : z < 96) : freshB { S k with away := namedI (fun i => (B j).getD i 0) (B j).length, awayN := f } M0 z = (!decide (z ∈ B k) && !decide (z ∈ B j)) := by
  rw [freshB_eq h0 h1, M0_zero _ (by omega) (by omega)]
  have e : (({ S k with away := namedI (fun i => (B j).getD i 0) (B j).length, awayN := f } : Vw).word M0 (200 + z) = 0) = (z ∉ B k) := propext (T.own k hk z h0 h1)
  have e2 : ({ S k with away := namedI (fun i => (B j).getD i 0) (B j).length, awayN := f } : Vw).away z = decide (z ∈ B j) := named_mem
  rw [e2]
  simp only [e]
  simp
theorem Took.freeN (T : Took S B C) {k j : Nat} (hk : k < 2) (hj : j < 2) {f : Int → Bool} (z : Int) (h0 : 2 ≤ z) (h1 : z < 24) : Go.Proofs.Ythpajdhcgdllmaa.freeN { S k with away := f, awayN := namedI (fun i => (C j).getD i 0) (C j).length } M0 z = (!decide (z ∈ C k) && !decide (z ∈ C j)) := by
  unfold Go.Proofs.Ythpajdhcgdllmaa.freeN
  have e : (({ S k with away := f, awayN := namedI (fun i => (C j).getD i 0) (C j).length } : Vw).word M0 (8 + 8 * z) % 256 = 0) = (z ∉ C k) := propext (T.card k hk z h0 h1)
  have e2 : ({ S k with away := f, awayN := namedI (fun i => (C j).getD i 0) (C j).length } : Vw).awayN z = decide (z ∈ C j) := named_mem
  rw [e2]
  simp only [e]
  simp
/-- Where none is free, all are taken. -/
theorem full_len {l0 l1 : List Int} {a : Int} {n : Nat} (h0 : l0.Nodup) (h1 : l1.Nodup) (ha : ∀ z ∈ l0, z ∉ l1) (i0 : ∀ z ∈ l0, a ≤ z ∧ z < a + (n : Int)) (i1 : ∀ z ∈ l1, a ≤ z ∧ z < a + (n : Int)) (h : ∀ z, a ≤ z → z < a + (n : Int) → z ∈ l0 ∨ z ∈ l1) : l0.length + l1.length = n := by
  have hn : (l0 ++ l1).Nodup := by
    rw [List.nodup_append]
    exact ⟨h0, h1, fun x hx y hy e => ha x hx (e ▸ hy)⟩
  have u := len_le n a (l0 ++ l1) hn fun z hz => by
    rcases List.mem_append.1 hz with e | e
    · exact i0 z e
    · exact i1 z e
  have v := le_len n a (l0 ++ l1) fun z z0 z1 => List.mem_append.2 (h z z0 z1)
  rw [List.length_append] at u v
  omega
end

theorem has_out (a : Option Addr) (n c : Nat) (f : Nat → Int) (k : Int) (w : World) (h : IntsAt w a n f) (hn : n ≤ 9223372036854775807) :
    Calls Try.prog 14 #[.slice a n c, .int .i64 k] w fun e w' => e = .returned (.bool (namedI f n k)) ∧ w' = w := by
  have HI : Hid (IntsAt w a n f) := h
  obtain ⟨B, hB⟩ : ∃ B, namedI f n k = B := ⟨_, rfl⟩
  have HB : Hid (namedI f n k = B) := hB
  rw [hB]
  clear h hB
  go_enter Try.func14, Try.ntmps14
  go_wp2
  go_loop [5] (fun i => ∃ j : Nat, j ≤ n ∧ i = .int .i64 j ∧ Hid (∀ q, q < j → f q ≠ k)) (fun i => n - (intOf i).toNat)
  case atStart => exact ⟨0, Nat.zero_le _, rfl, fun q hq => absurd hq (Nat.not_lt_zero q)⟩
  case round =>
    obtain ⟨j, hj, rfl, HQ⟩ := hrel
    by_cases hlt : j < n
    · obtain ⟨b, o, rfl, hbl, hc⟩ := HI.out.resolve_left (by omega)
      have x1 := hc j hlt
      have hb : (j : Int) < (n : Int) := by omega
      obtain ⟨X, hX⟩ : ∃ X, f j = X := ⟨_, rfl⟩
      rw [hX] at x1
      have KX : Hid (f j = X) := hX
      clear hX hc
      by_cases e : X = k
      · subst e
        go_wp2
        go_ret
        refine ⟨ret_bool ?_, rfl⟩
        rw [← HB.out]
        symm
        unfold namedI
        exact decide_eq_true ⟨j, hlt, KX.out⟩
      · have e1 : (X == k) = false := by simpa using e
        have HE : Hid (¬ X = k) := e
        clear e
        go_wp2
        go_round
        case rel => exact ⟨j + 1, by omega, by go_num, fun q hq => by
          by_cases e : q = j
          · subst e; rw [KX.out]; exact HE.out
          · exact HQ.out q (by omega)⟩
        case measure => simp [intOf]; omega
    · obtain rfl : j = n := by omega
      go_wp2
      go_ret
      refine ⟨ret_bool ?_, rfl⟩
      rw [← HB.out]
      symm
      unfold namedI
      rw [decide_eq_false_iff_not]
      rintro ⟨q, hq, e⟩
      exact HQ.out q hq e


end Go.Proofs.Ythpajdhcgdllmaa
