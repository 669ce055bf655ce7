/- Two files, the one's step behind the other's. -/
import Derived.Test.YtdjnkibnnjobpaaGreatBdZ
namespace Go.Proofs.YtdjnkibnnjobpaaGreat
open Go.RowKit Go.Maps Go.ChangeMaps

/-- Two files of one view, and the array that names them. -/
structure Ap (w0 w : World) (xb b1 b2 : Nat) (V : VLay) (S : Vw) (L : Lay) (M : Mem) (q : Nat) (c1 : Crd) (t1 : ByteArray) (c2 : Crd) (t2 : ByteArray) : Prop where
  f1 : FSt w b1 V S L M q 2 c1 t1
  f2 : FSt w b2 V S L M q 3 c2 t2
  ne : b1 ≠ b2
  two : Two M.read
  bel : Below w0.heap.size w0 w
  low1 : w0.heap.size ≤ b1
  low2 : w0.heap.size ≤ b2
  lowV : ∀ x ∈ V.all, w0.heap.size ≤ x
  lowL : ∀ x ∈ L.blocks, w0.heap.size ≤ x
  arr : w.heap[xb]? = some (.cells #[.pointer (some ⟨b1, 0, none⟩), .pointer (some ⟨b2, 0, none⟩)] 25 (0, 0))
  xV : xb ∉ V.all
  xL : xb ∉ L.blocks
  x1 : xb ≠ b1
  x2 : xb ≠ b2
theorem FSt.mono {w : World} {b : Nat} {V : VLay} {S : Vw} {L : Lay} {M : Mem} {q q2 : Nat} {node : Int} {c : Crd} {t : ByteArray} (h : FSt w b V S L M q node c t) (hq : q ≤ q2) : FSt w b V S L M q2 node c t := ⟨h.rest.mono hq, h.obj, h.bV, h.bL, h.ok⟩
theorem Rest.later {w w' : World} {V : VLay} {S : Vw} {L : Lay} {M : Mem} {q : Nat} (h : Rest w V S L M q) (hb : Below w.heap.size w w') : Rest w' V S L M q := ⟨h.on.later hb, h.own, h.away, h.stops, h.len, h.calls⟩
theorem FSt.later {w w' : World} {b : Nat} {V : VLay} {S : Vw} {L : Lay} {M : Mem} {q : Nat} {node : Int} {c : Crd} {t : ByteArray} (h : FSt w b V S L M q node c t) (hb : Below w.heap.size w w') : FSt w' b V S L M q node c t := ⟨h.rest.later hb, h.obj.later hb, h.bV, h.bL, h.ok⟩
section
variable {w0 w w' : World} {xb b1 b2 : Nat} {V : VLay} {S : Vw} {L : Lay} {M : Mem} {q : Nat} {c1 : Crd} {t1 : ByteArray} {c2 : Crd} {t2 : ByteArray} {e : Ending}
theorem Ap.mono {q2 : Nat} (h : Ap w0 w xb b1 b2 V S L M q c1 t1 c2 t2) (hq : q ≤ q2) : Ap w0 w xb b1 b2 V S L M q2 c1 t1 c2 t2 := { h with f1 := h.f1.mono hq, f2 := h.f2.mono hq }
theorem Ap.later (h : Ap w0 w xb b1 b2 V S L M q c1 t1 c2 t2) (hb : Below w.heap.size w w') : Ap w0 w' xb b1 b2 V S L M q c1 t1 c2 t2 :=
  { h with f1 := h.f1.later hb, f2 := h.f2.later hb, bel := h.bel.trans (hb.mono h.bel.size), arr := (hb.block _ (Array.getElem?_eq_some_iff.1 h.arr).1).trans h.arr }
theorem Ap.step1 (h : Ap w0 w xb b1 b2 V S L M q c1 t1 c2 t2) (hs : StepTo b1 V L M q 2 w w' e) : e = .returned (.bool true) ∧ ∃ V' S' M' c t, Ap w0 w' xb b1 b2 V' S' L M' (q + 2824) c t c2 t2 := by
  obtain ⟨h0, V', S', M', c, t, hvb, hsub, hf, hk, ho⟩ := hs
  have hlt : b2 < w.heap.size := h.f2.obj.lt
  have hxl : xb < w.heap.size := (Array.getElem?_eq_some_iff.1 h.arr).1
  have hoX : b2 ∉ b1 :: V.blocks ++ L.blocks := fun hm => by
    simp only [List.cons_append, List.mem_cons, List.mem_append] at hm
    rcases hm with hm | hm | hm
    · exact h.ne.symm hm
    · exact h.f2.bV (blocks_sub hm)
    · exact h.f2.bL hm
  have hxX : xb ∉ b1 :: V.blocks ++ L.blocks := fun hm => by
    simp only [List.cons_append, List.mem_cons, List.mem_append] at hm
    rcases hm with hm | hm | hm
    · exact h.x1 hm
    · exact h.xV (blocks_sub hm)
    · exact h.xL hm
  have hobj : FObjC w' b2 V'.vb L.mb 3 c2 t2 := by rw [hvb]; exact h.f2.obj.only ho hoX
  have hfo : FSt w' b2 V' S' L M' (q + 2824) 3 c2 t2 := ⟨hf.rest, hobj, fun hm => (hsub _ hm).elim h.f2.bV (fun x => by omega), h.f2.bL, h.f2.ok.other hk (by omega) (by omega)⟩
  refine ⟨h0, V', S', M', c, t, ⟨hf, hfo, h.ne, h.two.keep2 hk, h.bel.trans (ho.below h.bel.size fun k hm => ?_), h.low1, h.low2, fun x hx => (hsub x hx).elim (h.lowV x) (fun y => Nat.le_trans h.bel.size y), h.lowL, (ho.block _ hxl hxX).trans h.arr, fun hm => (hsub _ hm).elim h.xV (fun x => by omega), h.xL, h.x1, h.x2⟩⟩
  simp only [List.cons_append, List.mem_cons, List.mem_append] at hm
  rcases hm with hm | hm | hm
  · rw [hm]; exact h.low1
  · exact h.lowV k (blocks_sub hm)
  · exact h.lowL k hm
theorem Ap.step2 (h : Ap w0 w xb b1 b2 V S L M q c1 t1 c2 t2) (hs : StepTo b2 V L M q 3 w w' e) : e = .returned (.bool true) ∧ ∃ V' S' M' c t, Ap w0 w' xb b1 b2 V' S' L M' (q + 2824) c1 t1 c t := by
  obtain ⟨h0, V', S', M', c, t, hvb, hsub, hf, hk, ho⟩ := hs
  have hlt : b1 < w.heap.size := h.f1.obj.lt
  have hxl : xb < w.heap.size := (Array.getElem?_eq_some_iff.1 h.arr).1
  have hoX : b1 ∉ b2 :: V.blocks ++ L.blocks := fun hm => by
    simp only [List.cons_append, List.mem_cons, List.mem_append] at hm
    rcases hm with hm | hm | hm
    · exact h.ne hm
    · exact h.f1.bV (blocks_sub hm)
    · exact h.f1.bL hm
  have hxX : xb ∉ b2 :: V.blocks ++ L.blocks := fun hm => by
    simp only [List.cons_append, List.mem_cons, List.mem_append] at hm
    rcases hm with hm | hm | hm
    · exact h.x2 hm
    · exact h.xV (blocks_sub hm)
    · exact h.xL hm
  have hobj : FObjC w' b1 V'.vb L.mb 2 c1 t1 := by rw [hvb]; exact h.f1.obj.only ho hoX
  have hfo : FSt w' b1 V' S' L M' (q + 2824) 2 c1 t1 := ⟨hf.rest, hobj, fun hm => (hsub _ hm).elim h.f1.bV (fun x => by omega), h.f1.bL, h.f1.ok.other hk (by omega) (by omega)⟩
  refine ⟨h0, V', S', M', c, t, ⟨hfo, hf, h.ne, h.two.keep3 hk, h.bel.trans (ho.below h.bel.size fun k hm => ?_), h.low1, h.low2, fun x hx => (hsub x hx).elim (h.lowV x) (fun y => Nat.le_trans h.bel.size y), h.lowL, (ho.block _ hxl hxX).trans h.arr, fun hm => (hsub _ hm).elim h.xV (fun x => by omega), h.xL, h.x1, h.x2⟩⟩
  simp only [List.cons_append, List.mem_cons, List.mem_append] at hm
  rcases hm with hm | hm | hm
  · rw [hm]; exact h.low2
  · exact h.lowV k (blocks_sub hm)
  · exact h.lowL k hm
/-- What a step of file 1 leaves of both. -/
def ApTo1 (w0 : World) (xb b1 b2 : Nat) (L : Lay) (q : Nat) (c2 : Crd) (t2 : ByteArray) (w' : World) (e : Ending) : Prop := e = .returned (.bool true) ∧ ∃ V' S' M' c t, Ap w0 w' xb b1 b2 V' S' L M' (q + 2824) c t c2 t2
theorem Ap.call1 (h : Ap w0 w xb b1 b2 V S L M q c1 t1 c2 t2) (o : Bop) (hq : q < 900000000) (ha : o.at_ ≤ 9223372036854775807) (v : World) (hb : Below w.heap.size w v) :
    Calls Tryz.prog 10 #[.pointer (some ⟨b1, 0, none⟩), .agg #[.int .i64 o.kind, .int .i64 o.at_, .int .i64 o.n, .string o.data]] v fun e w' => ApTo1 w0 xb b1 b2 L q c2 t2 w' e :=
  (step_any b1 V S L M q 2 c1 t1 o v (h.later hb).f1 (by omega) (by omega) hq ha).mono fun e w' hs => (h.later hb).step1 hs
/-- What a step of file 2 leaves of both. -/
def ApTo2 (w0 : World) (xb b1 b2 : Nat) (L : Lay) (q : Nat) (c1 : Crd) (t1 : ByteArray) (w' : World) (e : Ending) : Prop := e = .returned (.bool true) ∧ ∃ V' S' M' c t, Ap w0 w' xb b1 b2 V' S' L M' (q + 2824) c1 t1 c t
theorem Ap.call2 (h : Ap w0 w xb b1 b2 V S L M q c1 t1 c2 t2) (o : Bop) (hq : q < 900000000) (ha : o.at_ ≤ 9223372036854775807) (v : World) (hb : Below w.heap.size w v) :
    Calls Tryz.prog 10 #[.pointer (some ⟨b2, 0, none⟩), .agg #[.int .i64 o.kind, .int .i64 o.at_, .int .i64 o.n, .string o.data]] v fun e w' => ApTo2 w0 xb b1 b2 L q c1 t1 w' e :=
  (step_any b2 V S L M q 3 c2 t2 o v (h.later hb).f2 (by omega) (by omega) hq ha).mono fun e w' hs => (h.later hb).step2 hs
/-- From two new files. -/
theorem Ap.begin {w1 : World} (h1 : FSt w1 b1 V S L M q 2 c1 t1) (h2 : FSt w1 b2 V S L M q 3 c2 t2) (ne : b1 ≠ b2) (ht : Two M.read) (hb : Below w0.heap.size w0 w1) (l1 : w0.heap.size ≤ b1) (l2 : w0.heap.size ≤ b2) (lV : ∀ x ∈ V.all, w0.heap.size ≤ x) (lL : ∀ x ∈ L.blocks, w0.heap.size ≤ x) :
    Ap w0 (w1.alloc (.cells #[.pointer (some ⟨b1, 0, none⟩), .pointer (some ⟨b2, 0, none⟩)] 25)) w1.heap.size b1 b2 V S L M q c1 t1 c2 t2 := by
  have hba : Below w1.heap.size w1 (w1.alloc (.cells #[.pointer (some ⟨b1, 0, none⟩), .pointer (some ⟨b2, 0, none⟩)] 25)) := (Below.refl _ _).alloc (Nat.le_refl _) _
  have e1 := h1.obj.lt
  have e2 := h2.obj.lt
  exact ⟨h1.later hba, h2.later hba, ne, ht, hb.trans (hba.mono hb.size), l1, l2, lV, lL, heap_alloc_new _ _, fun hm => by have := h1.rest.on.view.all_lt _ hm; omega, fun hm => by have := h1.rest.on.mem.all_lt _ hm; omega, by omega, by omega⟩
theorem Ap.a0 (h : Ap w0 w xb b1 b2 V S L M q c1 t1 c2 t2) : w.cell? ⟨xb, 0, none⟩ = some (.pointer (some ⟨b1, 0, none⟩)) := by rw [cell_of_row w xb 0 _ _ _ h.arr]; rfl
theorem Ap.a1 (h : Ap w0 w xb b1 b2 V S L M q c1 t1 c2 t2) : w.cell? ⟨xb, 1, none⟩ = some (.pointer (some ⟨b2, 0, none⟩)) := by rw [cell_of_row w xb 1 _ _ _ h.arr]; rfl
end

end Go.Proofs.YtdjnkibnnjobpaaGreat
