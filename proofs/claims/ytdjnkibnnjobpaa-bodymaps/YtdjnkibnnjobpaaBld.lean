/- A builder's WriteString and String, with what else lies there: only the builder, its own buffer and new blocks change. -/
import Derived.Test.YtdjnkibnnjobpaaShS
import Derived.Test.YtdjnkibnnjobpaaBig
import Derived.Laws.OwnMore
namespace Go.Proofs.Ytdjnkibnnjobpaa
open Go.RowKit Go.Maps Go.ChangeMaps Go.Shelf Go.Proofs

/-- A builder in block b, whose buffer lies in a block from C on, with these bytes. -/
def Bldr (w : World) (C b : Nat) (bs : List Value) : Prop := b < w.heap.size ∧ ∃ p v, (p = .pointer none ∨ p = .pointer (some ⟨b, 0, none⟩)) ∧ w.heap[b]? = some (.cells #[p, v] 84 (0, 0)) ∧ w.ownsRow C 5 1 v bs.length bs ∧ v.ownBlock ≠ some b
/-- All blocks ahead of C but b are as they were. -/
structure Under (C b : Nat) (w w' : World) : Prop where
  os : w'.os = w.os
  tape : w'.tape = w.tape
  output : w'.output = w.output
  size : w.heap.size ≤ w'.heap.size
  block : ∀ k, k < C → k ≠ b → w'.heap[k]? = w.heap[k]?
theorem Under.refl (C b : Nat) (w : World) : Under C b w w := ⟨rfl, rfl, rfl, Nat.le_refl _, fun _ _ _ => rfl⟩
theorem Under.trans {C b : Nat} {u v w : World} (h : Under C b u v) (k : Under C b v w) : Under C b u w :=
  ⟨k.os.trans h.os, k.tape.trans h.tape, k.output.trans h.output, Nat.le_trans h.size k.size, fun i hi hn => (k.block i hi hn).trans (h.block i hi hn)⟩
theorem Under.of_below {C b : Nat} {w w' : World} (h : Below C w w') : Under C b w w' := ⟨h.os, h.tape, h.output, h.size, fun k hk _ => h.block k hk⟩
theorem Under.setCell {C b : Nat} {u w : World} (h : Under C b u w) (o : Nat) (x : Value) : Under C b u (w.setCell ⟨b, o, none⟩ x) :=
  ⟨h.os, h.tape, h.output, by simpa using h.size, fun k hk hn => (Below.heap_setCell _ _ _ _ hn).trans (h.block k hk hn)⟩
theorem Under.below {C b B : Nat} {w w' : World} (h : Under C b w w') (hB : B ≤ C) (hb : B ≤ b) : Below B w w' :=
  ⟨h.os, h.tape, h.output, h.size, fun k hk => h.block k (by omega) (by omega)⟩
theorem ownsRow_low {w : World} {B B' : Nat} {e : TypeId} {v : Value} {n : Nat} {xs : List Value} (h : w.ownsRow B e 1 v n xs) (hB : B' ≤ B) : w.ownsRow B' e 1 v n xs := by
  refine ⟨h.1, ?_⟩
  rcases h.2 with h2 | ⟨g, cap, cur, rfl, r1, r2⟩
  · exact .inl h2
  · exact .inr ⟨g, cap, cur, rfl, by omega, r2⟩
theorem own_keep {w w' : World} {C : Nat} {e : TypeId} {v : Value} {n : Nat} {xs : List Value} (h : w.ownsRow C e 1 v n xs) (hb : ∀ g, v.ownBlock = some g → w'.heap[g]? = w.heap[g]?) : w'.ownsRow C e 1 v n xs := by
  refine ⟨h.1, ?_⟩
  rcases h.2 with h2 | ⟨g, cap, cur, rfl, r1, r2, r3⟩
  · exact .inl h2
  · exact .inr ⟨g, cap, cur, rfl, r1, (hb g rfl).trans r2, r3⟩
theorem Bldr.new (w : World) (C : Nat) : Bldr (w.alloc (.cells #[.pointer none, .slice none 0 0] 84)) C w.heap.size [] :=
  ⟨by simp, .pointer none, .slice none 0 0, .inl rfl, heap_alloc_new w _, World.ownsRow_nil _ _ _ _, by simp [Value.ownBlock]⟩
/-- Other calls leave a builder. -/
theorem Bldr.later {w w' : World} {C b : Nat} {bs : List Value} (h : Bldr w C b bs) (hb : Below w.heap.size w w') : Bldr w' C b bs := by
  obtain ⟨h0, p, v, h1, h2, h3, h4⟩ := h
  refine ⟨by have := hb.size; omega, p, v, h1, (hb.block b h0).trans h2, own_keep h3 fun g hg => hb.block g ?_, h4⟩
  exact (World.ownsRow.lt h3 g hg).2

set_option maxHeartbeats 2000000 in
set_option maxRecDepth 100000 in
theorem write_own (C b : Nat) (bs : List Value) (s : ByteArray) (w : World) (h : Bldr w C b bs) (hlen : bs.length + s.size ≤ 140737488355328) (hbC : b < C) (hC : C ≤ w.heap.size) :
    Calls Try.prog 38 #[.pointer (some ⟨b, 0, none⟩), .string s] w fun e w' => e = .returned (.tuple #[.int .i64 s.size, .nilIface]) ∧ Bldr w' C b (bs ++ Lib.strCells s) ∧ Under C b w w' := by
  obtain ⟨i0, hi, hz0, hz1, hz2⟩ := info_parts Try.extra105.infoByte
  obtain ⟨h0, p, v, h1, h2, h3, h4⟩ := h
  have HCC : Hid (Calls Try.prog 53 #[.pointer (some ⟨b, 0, none⟩)] w fun e w' => e = .returned (.tuple #[]) ∧ w'.heap[b]? = some (.cells #[.pointer (some ⟨b, 0, none⟩), v] 84 (0, 0)) ∧ w'.ownsRow C 5 1 v bs.length bs ∧ Under C b w w') := by
    rcases h1 with rfl | rfl
    · refine (Any.Builder_copyCheck_fresh { Try.lays105 with } Try.extra105.toX72 b w (by rw [cell_of_row w b 0 _ _ _ h2]; rfl) (by simp [World.shape?, h2]; rfl) (frozen_of_row w b 0 _ _ h2)).mono ?_
      rintro e w' ⟨rfl, rfl⟩
      refine ⟨rfl, ?_, own_keep h3 fun g hg => Below.heap_setCell _ _ _ _ (fun e => h4 (by rw [hg, e])), (Under.refl _ _ _).setCell 0 _⟩
      rw [heap_setCell_same w b 0 _ _ _ h2]
      rfl
    · refine (Any.Builder_copyCheck_used { Try.lays105 with } Try.extra105.toX72 b w (by rw [cell_of_row w b 0 _ _ _ h2]; rfl)).mono ?_
      rintro e w' ⟨rfl, rfl⟩
      exact ⟨rfl, h2, h3, Under.refl _ _ _⟩
  clear h1 h2 h3
  go_enter Try.func38, Try.ntmps38
  go_wp2_with fail
  refine Calls.mono (Hid.out HCC) ?_
  rintro e w1 ⟨rfl, hbk, hown, hu1⟩
  have c0 : w1.cell? ⟨b, 0, none⟩ = some (.pointer (some ⟨b, 0, none⟩)) := by rw [cell_of_row w1 b 0 _ _ _ hbk]; rfl
  have c1 : w1.cell? ⟨b, 1, none⟩ = some v := by rw [cell_of_row w1 b 1 _ _ _ hbk]; rfl
  go_wp2_with (first
    | (at_builtin; refine Lib.wpList_append_own_string _ rfl _ _ 82 9 rfl C 5 i0 Try.underlying82 Try.underlying9 hi hz0 hz1 hz2 _ _ _ rfl hown s rfl ?q3 ?q4 ?q5 ?_)
    | go_in)
  case q3 => unfold maxLen; omega
  case q4 => omega
  case q5 => have := hu1.size; omega
  intro v' w2 hown' hgrow _
  have hlt : b < w1.heap.size := by have := hu1.size; omega
  have hb2 : w2.heap[b]? = some (.cells #[.pointer (some ⟨b, 0, none⟩), v] 84 (0, 0)) := by
    rw [hgrow.block b hlt (fun e => h4 e.symm)]
    exact hbk
  have d0 : w2.cell? ⟨b, 0, none⟩ = some (.pointer (some ⟨b, 0, none⟩)) := by rw [cell_of_row w2 b 0 _ _ _ hb2]; rfl
  have d1 : w2.cell? ⟨b, 1, none⟩ = some v := by rw [cell_of_row w2 b 1 _ _ _ hb2]; rfl
  have f1 : w2.frozen? ⟨b, 1, none⟩ = false := frozen_of_row w2 b 1 _ _ hb2
  obtain ⟨ao, n', cap, rfl⟩ : ∃ ao n' cap, v' = .slice ao n' cap := by
    rcases hown'.2 with ⟨hv, _⟩ | ⟨g, cap, cur, hv, _⟩
    · exact ⟨_, _, _, hv⟩
    · exact ⟨_, _, _, hv⟩
  go_wp2
  go_ret2
  have hne' : (Value.slice ao n' cap).ownBlock ≠ some b := fun e => by
    have := (World.ownsRow.lt hown' b e).1
    omega
  refine ⟨rfl, ⟨?_, .pointer (some ⟨b, 0, none⟩), .slice ao n' cap, .inr rfl, ?_, ?_, hne'⟩, (hu1.trans ?_).setCell 1 _⟩
  · have := hgrow.size; simp; omega
  · rw [heap_setCell_same w2 b 1 _ _ _ hb2]; rfl
  · have hl : (bs ++ Lib.strCells s).length = bs.length + s.size := by rw [List.length_append, Lib.strCells_length]
    rw [hl]
    exact own_keep hown' fun g hg => Below.heap_setCell _ _ _ _ (fun e => hne' (by rw [hg, e]))
  · have hbg := (Below.refl C w1).grown hgrow (by have := hu1.size; omega) (fun k hk => (hown.lt k hk).1)
    exact Under.of_below hbg
theorem string_own (C b : Nat) (l : List UInt8) (w : World) (h : Bldr w C b (Lib.byteCells l)) (hbC : b ≤ C) :
    Calls Try.prog 39 #[.pointer (some ⟨b, 0, none⟩)] w fun e w' => e = .returned (.string ⟨l.toArray⟩) ∧ Below b w w' := by
  obtain ⟨h0, p, v, h1, h2, h3, h4⟩ := h
  refine string_lib b b l w ?_ (Nat.le_of_lt h0)
  have h5 := ownsRow_low h3 hbC
  rcases h1 with rfl | rfl
  · exact Or.inl ⟨Nat.le_refl _, v, h2, h5, h4⟩
  · exact Or.inr ⟨Nat.le_refl _, v, h2, h5, h4⟩

end Go.Proofs.Ytdjnkibnnjobpaa
