/- Two views of one memory, and what a step of one of them leaves. -/
import Derived.Test.YtomlbifplliakaaGreatS8
import Derived.Test.YtomlbifplliakaaGreatOp
import Derived.Test.YtomlbifplliakaaGreatSm
namespace Go.Proofs.YtomlbifplliakaaGreat
open Go.RowKit Go.Maps Go.ChangeMaps

structure Two (w0 w : World) (V : VLay) (S : Vw) (N : Nat) (Y : VLay) (T : Vw) (K : Nat) (L : Lay) (M : Mem) (G : Nat) : Prop where
  bel : Below w0.heap.size w0 w
  v : ViewIs w V S N
  y : ViewIs w Y T K
  mem : MemIs w L M
  row : RowIs w G headN
  vm : V.mb = L.mb
  ym : Y.mb = L.mb
  lv : ∀ b ∈ L.blocks, b ∉ V.all
  ly : ∀ b ∈ L.blocks, b ∉ Y.all
  vy : ∀ j ∈ V.all, j ∉ Y.all
  gv : G ∉ V.all
  gy : G ∉ Y.all
  gl : G ∉ L.blocks
  lowV : ∀ j ∈ V.all, w0.heap.size ≤ j
  lowY : ∀ j ∈ Y.all, w0.heap.size ≤ j
  lowL : ∀ j ∈ L.blocks, w0.heap.size ≤ j
section
variable {w0 w w1 w' : World} {V Y : VLay} {S T : Vw} {N K : Nat} {L : Lay} {M : Mem} {G : Nat} {R : RLay}
theorem Two.swap (h : Two w0 w V S N Y T K L M G) : Two w0 w Y T K V S N L M G :=
  ⟨h.bel, h.y, h.v, h.mem, h.row, h.ym, h.vm, h.ly, h.lv, fun j hj hj2 => h.vy j hj2 hj, h.gy, h.gv, h.gl, h.lowY, h.lowV, h.lowL⟩
theorem Two.later (h : Two w0 w V S N Y T K L M G) (hb : Below w.heap.size w w1) : Two w0 w1 V S N Y T K L M G :=
  ⟨h.bel.trans (hb.mono h.bel.size), h.v.later hb, h.y.later hb, h.mem.later hb, h.row.later (Nat.le_refl _) hb, h.vm, h.ym, h.lv, h.ly, h.vy, h.gv, h.gy, h.gl, h.lowV, h.lowY, h.lowL⟩
/-- With a new view of the document's. -/
theorem Two.pair (h : Two w0 w V S N Y T K L M G) (hb : Below w.heap.size w w1) (hr : RefIs w0 w1 R) (hn : ∀ j ∈ R.blocks, w.heap.size ≤ j) : Pair w0 w1 V S N L M R :=
  ⟨h.v.later hb, h.mem.later hb, h.vm, hr, h.lv, fun j hj => ⟨fun hj2 => by have := h.v.all_lt j hj2; have := hn j hj; omega, fun hj2 => by have := h.mem.all_lt j hj2; have := hn j hj; omega⟩, h.lowV, h.lowL⟩
/-- Behind a step of one of them the other one is what it was. -/
theorem Two.post (h : Two w0 w V S N Y T K L M G) (hb : Below w.heap.size w w1) (hn : ∀ j ∈ R.blocks, w.heap.size ≤ j) (hp : StepPost w0 w1 V N L M R w') : ∃ V' S', Two w0 w' V' S' (N + 16) Y T K L M G ∧ V'.vb = V.vb := by
  obtain ⟨V', S', R', P, e1, _, ho, hv, _⟩ := hp
  have h1 := h.later hb
  have hX : ∀ j ∈ both V R, j ∈ V.all ∨ w.heap.size ≤ j := fun j hj => by
    unfold both at hj
    rcases List.mem_append.1 hj with e | e
    · exact .inl (V.blocks_all j e)
    · exact .inr (hn j e)
  have hs := hb.size
  have hg : G < w.heap.size := h.row.lt
  refine ⟨V', S', ⟨P.ref.bel, P.view, h1.y.kept ho (fun k hk hk2 => ?_), P.mem, ?_, P.mb, h.ym, P.vl, h.ly, fun j hj hj2 => ?_, fun hj => ?_, h.gy, h.gl, P.lowV, h.lowY, h.lowL⟩, e1⟩
  · rcases hX k hk2 with e | e
    · exact h.vy k e hk
    · have := h.y.all_lt k hk; omega
  · show w'.heap[G]? = _
    rw [ho.block G (by omega) (fun hm => by
      rcases hX G hm with e | e
      · exact h.gv e
      · omega)]
    exact h1.row
  · rcases hv j hj with e | e
    · exact h.vy j e hj2
    · have := h.y.all_lt j hj2; omega
  · rcases hv G hj with e | e
    · exact h.gv e
    · omega
end

end Go.Proofs.YtomlbifplliakaaGreat
