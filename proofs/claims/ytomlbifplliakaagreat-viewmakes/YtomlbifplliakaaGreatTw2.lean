/- A step of one of two views, with what else lies there. -/
import Derived.Test.YtomlbifplliakaaGreatTw
namespace Go.Proofs.YtomlbifplliakaaGreat
open Go.RowKit Go.Maps Go.ChangeMaps
set_option linter.unusedVariables false

section
variable {w0 w w1 w' : World} {V Y : VLay} {S T : Vw} {N K : Nat} {L : Lay} {M : Mem} {G : Nat} {R : RLay}
theorem Two.only (h : Two w0 w V S N Y T K L M G) (hb : Below w.heap.size w w1) (hn : ∀ j ∈ R.blocks, w.heap.size ≤ j) (hp : StepPost w0 w1 V N L M R w') : ∀ j, j < w.heap.size → j ∉ V.all → w'.heap[j]? = w.heap[j]? := by
  obtain ⟨V', S', R', P, e1, _, ho, hv, _⟩ := hp
  intro j hj hV
  rw [ho.block j (by have := hb.size; omega) fun hm => ?_]
  · exact hb.block j hj
  · unfold both at hm
    rcases List.mem_append.1 hm with e | e
    · exact hV (V.blocks_all j e)
    · have := hn j e; omega
/-- A row of changes that lies apart stays. -/
theorem Two.was (h : Two w0 w V S N Y T K L M G) (hb : Below w.heap.size w w1) (hn : ∀ j ∈ R.blocks, w.heap.size ≤ j) (hp : StepPost w0 w1 V N L M R w') {a : Option Addr} {cs : List Chg} (hc : ChgsAt w a cs) (hab : ∀ b, a.map (·.block) = some b → b < w.heap.size ∧ b ∉ V.all) :
    ∃ V' S', Two w0 w' V' S' (N + 16) Y T K L M G ∧ V'.vb = V.vb ∧ ChgsAt w' a cs ∧ (∀ b, a.map (·.block) = some b → b < w'.heap.size ∧ b ∉ V'.all) := by
  have hk := h.only hb hn hp
  have hp0 := hp
  obtain ⟨V1, S1, R1, P, _, _, ho, hv, _⟩ := hp
  have hsz : w.heap.size ≤ w'.heap.size := Nat.le_trans hb.size ho.size
  have hV1 : ∀ j ∈ V1.all, j ∈ V.all ∨ w.heap.size ≤ j := fun j hj => by
    rcases hv j hj with e | e
    · exact .inl e
    · have := hb.size; exact .inr (by omega)
  obtain ⟨V', S', hT, hvb, hall⟩ : ∃ V' S', Two w0 w' V' S' (N + 16) Y T K L M G ∧ V'.vb = V.vb ∧ (∀ j ∈ V'.all, j ∈ V.all ∨ w.heap.size ≤ j) := by
    obtain ⟨V', S', R', P, e1, _, ho, hv, _⟩ := hp0
    have h1 := h.later hb
    have hX : ∀ j ∈ both V R, j ∈ V.all ∨ w.heap.size ≤ j := fun j hj => by
      unfold both at hj
      rcases List.mem_append.1 hj with e | e
      · exact .inl (V.blocks_all j e)
      · exact .inr (hn j e)
    have hs := hb.size
    have hg : G < w.heap.size := h.row.lt
    refine ⟨V', S', ⟨P.ref.bel, P.view, h1.y.kept ho (fun k hk hk2 => ?_), P.mem, ?_, P.mb, h.ym, P.vl, h.ly, fun j hj hj2 => ?_, fun hj => ?_, h.gy, h.gl, P.lowV, h.lowY, h.lowL⟩, e1, fun j hj => (hv j hj).imp id fun e => (by have := hb.size; omega)⟩
    · rcases hX k hk2 with e | e
      · exact h.vy k e hk
      · have := h.y.all_lt k hk; omega
    · show w'.heap[G]? = _
      rw [ho.block G (by omega) (fun hm => by
        rcases hX G hm with e | e
        · exact h.gv e
        · omega)]
      exact h1.row
    · rcases hv j hj with e | e
      · exact h.vy j e hj2
      · have := h.y.all_lt j hj2; omega
    · rcases hv G hj with e | e
      · exact h.gv e
      · omega
  refine ⟨V', S', hT, hvb, ?_, fun b e => ⟨by have := (hab b e).1; omega, fun hm => ?_⟩⟩
  · rcases hc with hc | ⟨b, o, rfl, hlt, hcc⟩
    · exact .inl hc
    · have hbb := hk b hlt (hab b rfl).2
      exact .inr ⟨b, o, rfl, by omega, fun i hi => ⟨by rw [World.cell?_of_block (w := w) hbb]; exact (hcc i hi).1, by rw [World.cell?_of_block (w := w) hbb]; exact (hcc i hi).2⟩⟩
  · rcases hall b hm with q | q
    · exact (hab b e).2 q
    · have := (hab b e).1; omega
end
theorem cells_of {W : World} {b p : Nat} {o : Vop} (h : ∀ j, j < 15 → W.cell? ⟨b, p + j, none⟩ = o.vals[j]?) :
    W.cell? ⟨b, p, none⟩ = some (.int .i64 o.kind) ∧ W.cell? ⟨b, p + 1, none⟩ = some (.int .i64 o.at_) ∧ W.cell? ⟨b, p + 2, none⟩ = some (.int .u64 o.v) ∧ W.cell? ⟨b, p + 3, none⟩ = some (.int .i64 o.c.k) ∧ W.cell? ⟨b, p + 4, none⟩ = some (.int .i64 o.c.l) ∧ W.cell? ⟨b, p + 5, none⟩ = some (.int .i64 o.c.s) ∧ W.cell? ⟨b, p + 6, none⟩ = some (.int .u64 o.c.v) ∧ W.cell? ⟨b, p + 7, none⟩ = some (.int .i64 o.c.d0) ∧ W.cell? ⟨b, p + 8, none⟩ = some (.int .i64 o.c.d1) ∧ W.cell? ⟨b, p + 9, none⟩ = some (.int .i64 o.c.d2) ∧ W.cell? ⟨b, p + 10, none⟩ = some (.int .i64 o.c.d3) ∧ W.cell? ⟨b, p + 11, none⟩ = some (.int .i64 o.c.d4) ∧ W.cell? ⟨b, p + 12, none⟩ = some (.int .i64 o.c.m) ∧ W.cell? ⟨b, p + 13, none⟩ = some (.slice o.la o.ln o.lc) ∧ W.cell? ⟨b, p + 14, none⟩ = some (.slice o.na o.nn o.nc) :=
  ⟨h 0 (by omega), h 1 (by omega), h 2 (by omega), h 3 (by omega), h 4 (by omega), h 5 (by omega), h 6 (by omega), h 7 (by omega), h 8 (by omega), h 9 (by omega), h 10 (by omega), h 11 (by omega), h 12 (by omega), h 13 (by omega), h 14 (by omega)⟩
theorem new_places : Vw.new.places = [] := by
  unfold Vw.places Vw.new
  simp [placesOf]
theorem new_changes (M : Mem) : Vw.new.changes M = [] := by
  unfold Vw.changes
  rw [new_places]
  rfl

end Go.Proofs.YtomlbifplliakaaGreat
