/- A view of the program's and one of the document's beside one another; each call in such a pair. -/
import Derived.Test.YtomlbifplliakaaGreatRj
namespace Go.Proofs.YtomlbifplliakaaGreat
open Go.RowKit Go.Maps Go.ChangeMaps

structure Pair (w0 w : World) (V : VLay) (S : Vw) (N : Nat) (L : Lay) (M : Mem) (R : RLay) : Prop where
  view : ViewIs w V S N
  mem : MemIs w L M
  mb : V.mb = L.mb
  ref : RefIs w0 w R
  vl : ∀ b ∈ L.blocks, b ∉ V.all
  rv : ∀ j ∈ R.blocks, j ∉ V.all ∧ j ∉ L.blocks
  lowV : ∀ j ∈ V.all, w0.heap.size ≤ j
  lowL : ∀ j ∈ L.blocks, w0.heap.size ≤ j
section
variable {w0 w w1 : World} {V V1 : VLay} {S S1 : Vw} {N N1 : Nat} {L : Lay} {M : Mem} {R R1 : RLay}
theorem Pair.drew (h : Pair w0 w V S N L M R) : Pair w0 w.drew V S N L M R :=
  ⟨h.view.of_blocks (fun _ _ _ => rfl), h.mem.drew, h.mb, h.ref.of_blocks h.ref.bel.drew (fun _ _ _ => rfl), h.vl, h.rv, h.lowV, h.lowL⟩
theorem Pair.later (h : Pair w0 w V S N L M R) (hb : Below w.heap.size w w1) : Pair w0 w1 V S N L M R :=
  ⟨h.view.later hb, h.mem.later hb, h.mb, h.ref.later hb, h.vl, h.rv, h.lowV, h.lowL⟩
theorem Pair.viewStep (h : Pair w0 w V S N L M R) (hv : ViewIs w1 V1 S1 N1) {X : List Nat} (ho : Only X w w1) (hX : ∀ j ∈ X, j ∈ V.all) (hm : V1.mb = V.mb) (hn : ∀ j ∈ V1.all, j ∈ V.all ∨ w.heap.size ≤ j) : Pair w0 w1 V1 S1 N1 L M R := by
  refine ⟨hv, h.mem.kept ho (fun k hk hk2 => h.vl k hk (hX k hk2)), hm.trans h.mb, h.ref.kept ho (fun k hk hk2 => (h.rv k hk).1 (hX k hk2)) (fun j hj => h.lowV j (hX j hj)), fun b hb hb2 => ?_, fun j hj => ⟨fun hj2 => ?_, (h.rv j hj).2⟩, fun j hj => ?_, h.lowL⟩
  · rcases hn b hb2 with e | e
    · exact h.vl b hb e
    · have := h.mem.all_lt b hb; omega
  · rcases hn j hj2 with e | e
    · exact (h.rv j hj).1 e
    · have := h.ref.all_lt j hj; omega
  · rcases hn j hj with e | e
    · exact h.lowV j e
    · have := h.ref.bel.size; omega
theorem Pair.refStep (h : Pair w0 w V S N L M R) (hr : RefIs w0 w1 R1) (ho : Only R.blocks w w1) (hn : ∀ j ∈ R1.blocks, j ∈ R.blocks ∨ w.heap.size ≤ j) : Pair w0 w1 V S N L M R1 := by
  refine ⟨h.view.kept ho (fun k hk hk2 => (h.rv k hk2).1 hk), h.mem.kept ho (fun k hk hk2 => (h.rv k hk2).2 hk), h.mb, hr, h.vl, fun j hj => ?_, h.lowV, h.lowL⟩
  rcases hn j hj with e | e
  · exact h.rv j e
  · exact ⟨fun hj2 => by have := h.view.all_lt j hj2; omega, fun hj2 => by have := h.mem.all_lt j hj2; omega⟩
theorem Pair.mono (h : Pair w0 w V S N L M R) (hn : N ≤ N1) : Pair w0 w V S N1 L M R := ⟨h.view.mono hn, h.mem, h.mb, h.ref, h.vl, h.rv, h.lowV, h.lowL⟩
end
/-- What a step of both may change. -/
def both (V : VLay) (R : RLay) : List Nat := V.blocks ++ R.blocks
theorem only_v {V : VLay} {R : RLay} {X : List Nat} {a b : World} (h : Only X a b) (hX : ∀ j ∈ X, j ∈ V.blocks) : Only (both V R) a b := h.mono fun j hj => by simp [both, hX j hj]
theorem only_r {V : VLay} {R : RLay} {a b : World} (h : Only R.blocks a b) : Only (both V R) a b := h.mono fun j hj => by simp [both, hj]

section
variable (w0 w : World) (V : VLay) (S : Vw) (N : Nat) (L : Lay) (M : Mem) (R : RLay)
theorem pv_write (k v : Int) (h : Pair w0 w V S N L M R) (hN : N < 900000000) (hk : (Lit.int .i64 k).wf = true) (hv : (Lit.int .u64 v).wf = true) :
    Calls Tryz.prog 21 #[.pointer (some ⟨V.vb, 0, none⟩), .int .i64 k, .int .u64 v] w fun e w' => SomeInt .i64 e ∧ (∃ S', Pair w0 w' V S' (N + 16) L M R) ∧ Only (both V R) w w' := by
  cases hb : openB k with
  | false => exact (vwrite_no V S N k v w h.view hb).mono fun e w' ⟨h1, h2⟩ => ⟨⟨_, h1⟩, ⟨S, by rw [h2]; exact h.mono (by omega)⟩, by rw [h2]; exact Only.refl _ _⟩
  | true => exact (vwrite_yes V S N k v w h.view hb (by omega) hk hv).mono fun e w' ⟨h1, h2, h3⟩ => ⟨⟨_, h1⟩, ⟨_, h.viewStep (h2.mono (by omega)) h3 (by simp [VLay.all, VLay.blocks]) rfl (fun _ hj => .inl hj)⟩, only_v h3 (by simp [VLay.blocks])⟩
theorem pr_write (k v : Int) (h : Pair w0 w V S N L M R) (hv : (Lit.int .u64 v).wf = true) :
    Calls Tryz.prog 30 #[.pointer (some ⟨R.rb, 0, none⟩), .int .i64 k, .int .u64 v] w fun e w' => SomeInt .i64 e ∧ Pair w0 w' V S N L M R ∧ Only (both V R) w w' :=
  (rwrite w0 R k v w h.ref hv).mono fun _ _ ⟨h1, h2, h3⟩ => ⟨h1, h.refStep h2 h3 (fun _ hj => .inl hj), only_r h3⟩
theorem pv_card (k : Int) (h : Pair w0 w V S N L M R) (hN : N < 900000000) :
    Calls Tryz.prog 31 #[.pointer (some ⟨V.vb, 0, none⟩), .int .i64 k] w fun e w' => SomeCard e ∧ (∃ S', Pair w0 w' V S' (N + 16) L M R) ∧ Only (both V R) w w' := by
  by_cases hk : 0 ≤ k ∧ k < 24
  · exact (vcard_yes V S N L M k w h.view h.mem h.mb h.vl (by omega) hk.1 hk.2).mono fun e w' ⟨k, l, s, v, d0, d1, d2, d3, d4, m, x, h1, h2, h3⟩ => ⟨⟨k, l, s, v, d0, d1, d2, d3, d4, m, x, h1⟩, ⟨_, h.viewStep (h2.mono (by omega)) h3 (by simp [VLay.all, VLay.blocks]) rfl (fun _ hj => .inl hj)⟩, only_v h3 (by simp [VLay.blocks])⟩
  · exact (vcard_no V S N k w h.view (by omega)).mono fun e w' ⟨h1, h2⟩ => ⟨⟨_, _, _, _, _, _, _, _, _, _, _, h1⟩, ⟨S, (h.later h2).mono (by omega)⟩, Only.of_below h2⟩
theorem pr_card (k : Int) (h : Pair w0 w V S N L M R) :
    Calls Tryz.prog 32 #[.pointer (some ⟨R.rb, 0, none⟩), .int .i64 k] w fun e w' => SomeCard e ∧ Pair w0 w' V S N L M R ∧ Only (both V R) w w' :=
  (rcard w0 R k w h.ref).mono fun _ _ ⟨h1, h2, h3⟩ => ⟨h1, h.refStep h2 h3 (fun _ hj => .inl hj), only_r h3⟩
theorem wd_wf {k l s d0 d1 d2 d3 d4 m v : Int} (h : Cd.Rt k l s d0 d1 d2 d3 d4 m) (hv : (Lit.int .u64 v).wf = true) : ∀ i, i < 8 → (Lit.int .u64 (cardRow k l s v d0 d1 d2 d3 d4 m i)).wf = true := by
  have hf := h.fit
  unfold Cd.Fit Cd.Bk at hf
  intro i _
  unfold cardRow
  split
  · exact WalkArith.wf_u64 (by unfold Cd.wd0; omega)
  · split
    · exact hv
    · split
      · exact WalkArith.wf_u64 (by unfold Cd.wd2; omega)
      · split
        · exact WalkArith.wf_u64 (by unfold Cd.wd3; omega)
        · rfl
theorem pv_set (k : Int) (o : Vop) (h : Pair w0 w V S N L M R) (hN : N < 900000000) (hv : (Lit.int .u64 o.c.v).wf = true) :
    Calls Tryz.prog 33 #[.pointer (some ⟨V.vb, 0, none⟩), .int .i64 k, .agg #[.int .i64 o.c.k, .int .i64 o.c.l, .int .i64 o.c.s, .int .u64 o.c.v, .int .i64 o.c.d0, .int .i64 o.c.d1, .int .i64 o.c.d2, .int .i64 o.c.d3, .int .i64 o.c.d4, .int .i64 o.c.m]] w fun e w' => SomeInt .i64 e ∧ (∃ S', Pair w0 w' V S' (N + 16) L M R) ∧ Only (both V R) w w' := by
  by_cases hk : 0 ≤ k ∧ k < 24
  · by_cases hr : Cd.Rt o.c.k o.c.l o.c.s o.c.d0 o.c.d1 o.c.d2 o.c.d3 o.c.d4 o.c.m
    · exact (vset_yes V S N k o.c.k o.c.l o.c.s o.c.v o.c.d0 o.c.d1 o.c.d2 o.c.d3 o.c.d4 o.c.m w h.view (by omega) hk.1 hk.2 hr (wd_wf hr hv)).mono fun e w' ⟨h1, h2, h3⟩ => ⟨⟨_, h1⟩, ⟨_, h.viewStep (h2.mono (by omega)) h3 (by simp [VLay.all, VLay.blocks]) rfl (fun _ hj => .inl hj)⟩, only_v h3 (by simp [VLay.blocks])⟩
    · exact (vset_card V S N k o.c.k o.c.l o.c.s o.c.v o.c.d0 o.c.d1 o.c.d2 o.c.d3 o.c.d4 o.c.m w h.view hk.1 hk.2 hr).mono fun e w' ⟨h1, h2⟩ => ⟨⟨_, h1⟩, ⟨S, (h.later h2).mono (by omega)⟩, Only.of_below h2⟩
  · exact (vset_node V S N k o.c.k o.c.l o.c.s o.c.v o.c.d0 o.c.d1 o.c.d2 o.c.d3 o.c.d4 o.c.m w h.view (by omega)).mono fun e w' ⟨h1, h2⟩ => ⟨⟨_, h1⟩, ⟨S, (h.later h2).mono (by omega)⟩, Only.of_below h2⟩
theorem pr_set (k : Int) (o : Vop) (h : Pair w0 w V S N L M R) (hv : (Lit.int .u64 o.c.v).wf = true) :
    Calls Tryz.prog 34 #[.pointer (some ⟨R.rb, 0, none⟩), .int .i64 k, .agg #[.int .i64 o.c.k, .int .i64 o.c.l, .int .i64 o.c.s, .int .u64 o.c.v, .int .i64 o.c.d0, .int .i64 o.c.d1, .int .i64 o.c.d2, .int .i64 o.c.d3, .int .i64 o.c.d4, .int .i64 o.c.m]] w fun e w' => SomeInt .i64 e ∧ Pair w0 w' V S N L M R ∧ Only (both V R) w w' :=
  (rset w0 R k o.c.k o.c.l o.c.s o.c.v o.c.d0 o.c.d1 o.c.d2 o.c.d3 o.c.d4 o.c.m w h.ref (fun hr => wd_wf hr hv)).mono fun _ _ ⟨h1, h2, h3⟩ => ⟨h1, h.refStep h2 h3 (fun _ hj => .inl hj), only_r h3⟩
theorem pv_block (k : Int) (h : Pair w0 w V S N L M R) :
    Calls Tryz.prog 35 #[.pointer (some ⟨V.vb, 0, none⟩), .int .i64 k] w fun e w' => SomeWords w' e ∧ Pair w0 w' V S N L M R ∧ Only (both V R) w w' := by
  by_cases hk : 0 ≤ k ∧ k < 96
  · refine (vblock_yes V S N L M k w h.view h.mem h.mb hk.1 hk.2).mono fun e w' ⟨h1, h2, h3⟩ => ⟨⟨_, 16, 16, fun i => S.word M (1288 + 16 * k + (i : Int)), 0, h1, .inr ⟨_, 0, rfl, (h2.lt _ rfl).2, fun i hi => ?_⟩, by omega⟩, h.later h3, Only.of_below h3⟩
    rw [Nat.zero_add, h2.cellAt i (by simpa using hi)]
    simp [hi]
  · exact (vblock_no V S N k w h.view (by omega)).mono fun e w' ⟨h1, h2⟩ => ⟨⟨none, 0, 0, fun _ => 0, 1, h1, .inl rfl, by omega⟩, by rw [h2]; exact h, by rw [h2]; exact Only.refl _ _⟩
theorem pr_block (k : Int) (h : Pair w0 w V S N L M R) :
    Calls Tryz.prog 36 #[.pointer (some ⟨R.rb, 0, none⟩), .int .i64 k] w fun e w' => SomeWords w' e ∧ Pair w0 w' V S N L M R ∧ Below w.heap.size w w' :=
  (rblock w0 R k w h.ref).mono fun _ _ ⟨h1, h2⟩ => ⟨h1, h.later h2, h2⟩
theorem pv_setBlock (k : Int) (o : Vop) (h : Pair w0 w V S N L M R) (hN : N < 900000000) (ho : VopIn w0 o) :
    Calls Tryz.prog 37 #[.pointer (some ⟨V.vb, 0, none⟩), .int .i64 k, .slice o.la o.ln o.lc] w fun e w' => SomeInt .i64 e ∧ (∃ S', Pair w0 w' V S' (N + 16) L M R) ∧ Only (both V R) w w' := by
  by_cases hk : 0 ≤ k ∧ k < 96
  · by_cases hn : o.ln ≤ 16
    · exact (vsetBlock_yes V S N k o.la o.ln o.lc o.lf w h.view (by omega) hk.1 hk.2 hn (ho.l.at_.later (Nat.le_refl _) h.ref.bel) ho.l.ok).mono fun e w' ⟨h1, h2, h3⟩ => ⟨⟨_, h1⟩, ⟨_, h.viewStep (h2.mono (by omega)) h3 (by simp [VLay.all, VLay.blocks]) rfl (fun _ hj => .inl hj)⟩, only_v h3 (by simp [VLay.blocks])⟩
    · exact (vsetBlock_long V S N k o.la o.ln o.lc w h.view hk.1 hk.2 (by omega)).mono fun e w' ⟨h1, h2⟩ => ⟨⟨_, h1⟩, ⟨S, by rw [h2]; exact h.mono (by omega)⟩, by rw [h2]; exact Only.refl _ _⟩
  · exact (vsetBlock_no V S N k o.la o.ln o.lc w h.view (by omega)).mono fun e w' ⟨h1, h2⟩ => ⟨⟨_, h1⟩, ⟨S, by rw [h2]; exact h.mono (by omega)⟩, by rw [h2]; exact Only.refl _ _⟩
theorem pr_setBlock (k : Int) (o : Vop) (h : Pair w0 w V S N L M R) (ho : VopIn w0 o) :
    Calls Tryz.prog 38 #[.pointer (some ⟨R.rb, 0, none⟩), .int .i64 k, .slice o.la o.ln o.lc] w fun e w' => SomeInt .i64 e ∧ Pair w0 w' V S N L M R ∧ Only (both V R) w w' :=
  (rsetBlock w0 R k o.la o.ln o.lc o.lf w h.ref ho.l.at_ ho.l.ok).mono fun _ _ ⟨h1, h2, h3⟩ => ⟨h1, h.refStep h2 h3 (fun _ hj => .inl hj), only_r h3⟩
theorem pv_fresh (k : Int) (h : Pair w0 w V S N L M R) :
    Calls Tryz.prog 22 #[.pointer (some ⟨V.vb, 0, none⟩), .int .i64 k] w fun e w' => SomeBool e ∧ w' = w := by
  by_cases hk : 0 ≤ k ∧ k < 96
  · exact (vfresh_yes V S N L M k w h.view h.mem h.mb hk.1 hk.2).mono fun e w' ⟨h1, h2⟩ => ⟨⟨_, h1⟩, h2⟩
  · exact (vfresh_no V S N k w h.view (by omega)).mono fun e w' ⟨h1, h2⟩ => ⟨⟨_, h1⟩, h2⟩
end
/-- Which kind a step is of. -/
theorem kind_any (o : Vop) (q : Nat) (w : World) (_ : q < 9) (_ : wrap64 ((IntKind.u64.wrap o.kind).tmod 9) = (q : Int)) (_h2 : IntKind.i64.wrap ((IntKind.u64.wrap o.kind).tmod 9) = (q : Int)) :
    Calls Tryz.prog 29 #[.agg #[.int .i64 o.kind, .int .i64 o.at_, .int .u64 o.v, .int .i64 o.c.k, .int .i64 o.c.l, .int .i64 o.c.s, .int .u64 o.c.v, .int .i64 o.c.d0, .int .i64 o.c.d1, .int .i64 o.c.d2, .int .i64 o.c.d3, .int .i64 o.c.d4, .int .i64 o.c.m, .slice o.la o.ln o.lc, .slice o.na o.nn o.nc]] w fun e w' => e = .returned (.int .i64 q) ∧ Below w.heap.size w w' := by
  go_enter Tryz.func29, Tryz.ntmps29
  go_wp2
  go_ret
  exact ⟨rfl, (Below.refl _ _).alloc (Nat.le_refl _) _⟩

end Go.Proofs.YtomlbifplliakaaGreat
