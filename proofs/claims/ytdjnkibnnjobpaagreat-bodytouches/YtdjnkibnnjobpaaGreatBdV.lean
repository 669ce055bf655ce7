/- A step of a file of the laws. -/
import Derived.Test.YtdjnkibnnjobpaaGreatBdU
namespace Go.Proofs.YtdjnkibnnjobpaaGreat
open Go.RowKit Go.Maps Go.ChangeMaps

/-- A step's box. -/
def OpAt (w : World) (b : Nat) (o : Bop) : Prop := w.heap[b]? = some (.cells #[.int .i64 o.kind, .int .i64 o.at_, .int .i64 o.n, .string o.data] 30 (0, 0))
theorem OpAt.cells {w : World} {b : Nat} {o : Bop} (h : OpAt w b o) : w.cell? ⟨b, 0, none⟩ = some (.int .i64 o.kind) ∧ w.cell? ⟨b, 1, none⟩ = some (.int .i64 o.at_) ∧ w.cell? ⟨b, 2, none⟩ = some (.int .i64 o.n) ∧ w.cell? ⟨b, 3, none⟩ = some (.string o.data) :=
  ⟨by rw [cell_of_row w b 0 _ _ _ h]; rfl, by rw [cell_of_row w b 1 _ _ _ h]; rfl, by rw [cell_of_row w b 2 _ _ _ h]; rfl, by rw [cell_of_row w b 3 _ _ _ h]; rfl⟩
theorem OpAt.only {X : List Nat} {w w' : World} {b : Nat} {o : Bop} (h : OpAt w b o) (ho : Only X w w') (hX : b ∉ X) : OpAt w' b o := (ho.block b (Array.getElem?_eq_some_iff.1 h).1 hX).trans h
/-- What a step leaves. -/
def StepTo (b : Nat) (V : VLay) (L : Lay) (M : Mem) (q : Nat) (node : Int) (w w' : World) (e : Ending) : Prop :=
  e = .returned (.bool true) ∧ ∃ V' S' M' c' t', V'.vb = V.vb ∧ (∀ x ∈ V'.all, x ∈ V.all ∨ w.heap.size ≤ x) ∧ FSt w' b V' S' L M' (q + 2824) node c' t' ∧ Keeps M.read M'.read node ∧ Only (b :: V.blocks ++ L.blocks) w w'
theorem anew_all {V : VLay} {G : Nat} {n : Nat} (h : n ≤ G) : ∀ x ∈ (V.anew G).all, x ∈ V.all ∨ n ≤ x := by
  intro x hx
  simp only [VLay.anew, VLay.all, VLay.blocks, List.mem_append, List.mem_cons, List.not_mem_nil, or_false, Option.mem_toList] at hx ⊢
  rcases hx with ((e | e | e | e) | e) | e
  · exact .inl (.inl (.inl (.inl e)))
  · omega
  · omega
  · omega
  · exact .inl (.inl (.inr e))
  · exact .inl (.inr e)
theorem vb_mem (V : VLay) : V.vb ∈ V.all := by simp [VLay.all, VLay.blocks]
theorem blocks_sub {V : VLay} {x : Nat} (h : x ∈ V.blocks) : x ∈ V.all := V.blocks_all x h
/-- From what end leaves to what a step leaves. -/
theorem StepTo.of {b : Nat} {V : VLay} {Sv S : Vw} {L : Lay} {M : Mem} {q : Nat} {node : Int} {c c2 : Crd} {t0 t : ByteArray} {er f : Int} {w X w' : World} {e : Ending} (hst : FSt w b V Sv L M q node c t0) (hok : er = 0 → f = 0 → FOk (S.word M) node c2 t ∧ Keeps M.read (S.word M) node) (hX : Only V.blocks w X) (h : EndTo V S L M b node c c2 t0 t er f q X w' e) : StepTo b V L M q node w w' e := by
  obtain ⟨h0, G, S', M', hG, hR, hO, hc⟩ := h
  have hsub := anew_all (V := V) (n := w.heap.size) (Nat.le_trans hX.size hG)
  have hbn : b < w.heap.size := hst.obj.lt
  have hbV : b ∉ (V.anew G).all := fun hm => by
    rcases hsub b hm with x | x
    · exact hst.bV x
    · omega
  have hOn : Only (b :: V.blocks ++ L.blocks) w w' := by
    refine (hX.mono (fun x hx => by simp [hx])).trans (hO.mono fun x hx => ?_)
    simp only [List.mem_cons, List.cons_append, List.mem_append] at hx ⊢
    rcases hx with x | x | x
    · exact .inl x
    · right; left; rw [x]; simp [VLay.blocks]
    · exact .inr (.inr x)
  rcases hc with ⟨e0, f0, hw, ho⟩ | ⟨_, rfl, ho⟩
  · obtain ⟨k1, k2⟩ := hok e0 f0
    have : M'.read = S.word M := funext hw
    exact ⟨h0, V.anew G, S', M', c2, t, rfl, hsub, ⟨hR, ho, hbV, hst.bL, by rw [this]; exact k1⟩, by rw [this]; exact k2, hOn⟩
  · exact ⟨h0, V.anew G, S', M', c, t0, rfl, hsub, ⟨hR, ho, hbV, hst.bL, hst.ok⟩, Keeps.refl _ _, hOn⟩

/-- What a step leaves, and more. -/
def StepToX (PX : (Int → Int) → Crd → ByteArray → Prop) (b : Nat) (V : VLay) (L : Lay) (M : Mem) (q : Nat) (node : Int) (w w' : World) (e : Ending) : Prop :=
  e = .returned (.bool true) ∧ ∃ V' S' M' c' t', V'.vb = V.vb ∧ (∀ x ∈ V'.all, x ∈ V.all ∨ w.heap.size ≤ x) ∧ FSt w' b V' S' L M' (q + 2824) node c' t' ∧ Keeps M.read M'.read node ∧ Only (b :: V.blocks ++ L.blocks) w w' ∧ PX M'.read c' t'
theorem StepToX.weak {PX : (Int → Int) → Crd → ByteArray → Prop} {b : Nat} {V : VLay} {L : Lay} {M : Mem} {q : Nat} {node : Int} {w w' : World} {e : Ending} (h : StepToX PX b V L M q node w w' e) : StepTo b V L M q node w w' e := by
  obtain ⟨h0, V', S', M', c', t', h1, h2, h3, h4, h5, _⟩ := h
  exact ⟨h0, V', S', M', c', t', h1, h2, h3, h4, h5⟩
theorem StepToX.of {PX : (Int → Int) → Crd → ByteArray → Prop} {b : Nat} {V : VLay} {Sv S : Vw} {L : Lay} {M : Mem} {q : Nat} {node : Int} {c c2 : Crd} {t0 t : ByteArray} {er f : Int} {w X w' : World} {e : Ending} (hst : FSt w b V Sv L M q node c t0) (hok : er = 0 → f = 0 → FOk (S.word M) node c2 t ∧ Keeps M.read (S.word M) node) (hpx : (er = 0 → f = 0 → PX (S.word M) c2 t) ∧ (¬ (er = 0 ∧ f = 0) → PX M.read c t0)) (hX : Only V.blocks w X) (h : EndTo V S L M b node c c2 t0 t er f q X w' e) : StepToX PX b V L M q node w w' e := by
  obtain ⟨h0, G, S', M', hG, hR, hO, hc⟩ := h
  have hsub := anew_all (V := V) (n := w.heap.size) (Nat.le_trans hX.size hG)
  have hbn : b < w.heap.size := hst.obj.lt
  have hbV : b ∉ (V.anew G).all := fun hm => by
    rcases hsub b hm with x | x
    · exact hst.bV x
    · omega
  have hOn : Only (b :: V.blocks ++ L.blocks) w w' := by
    refine (hX.mono (fun x hx => by simp [hx])).trans (hO.mono fun x hx => ?_)
    simp only [List.mem_cons, List.cons_append, List.mem_append] at hx ⊢
    rcases hx with x | x | x
    · exact .inl x
    · right; left; rw [x]; simp [VLay.blocks]
    · exact .inr (.inr x)
  rcases hc with ⟨e0, f0, hw, ho⟩ | ⟨ne, rfl, ho⟩
  · obtain ⟨k1, k2⟩ := hok e0 f0
    have : M'.read = S.word M := funext hw
    exact ⟨h0, V.anew G, S', M', c2, t, rfl, hsub, ⟨hR, ho, hbV, hst.bL, by rw [this]; exact k1⟩, by rw [this]; exact k2, hOn, by rw [this]; exact hpx.1 e0 f0⟩
  · exact ⟨h0, V.anew G, S', M', c, t0, rfl, hsub, ⟨hR, ho, hbV, hst.bL, hst.ok⟩, Keeps.refl _ _, hOn, hpx.2 ne⟩

section
theorem ct0 {w : World} {b : Nat} {t : TypeId} {x0 x1 x2 x3 x4 x5 x6 x7 x8 x9 : Value} (h : w.heap[b]? = some (.cells #[x0, x1, x2, x3, x4, x5, x6, x7, x8, x9] t (0, 0))) (y : Value) : (w.setCell ⟨b, 0, none⟩ y).heap[b]? = some (.cells #[y, x1, x2, x3, x4, x5, x6, x7, x8, x9] t (0, 0)) := by
  rw [heap_setCell_same w b 0 _ _ y h]
  rfl
theorem ct1 {w : World} {b : Nat} {t : TypeId} {x0 x1 x2 x3 x4 x5 x6 x7 x8 x9 : Value} (h : w.heap[b]? = some (.cells #[x0, x1, x2, x3, x4, x5, x6, x7, x8, x9] t (0, 0))) (y : Value) : (w.setCell ⟨b, 1, none⟩ y).heap[b]? = some (.cells #[x0, y, x2, x3, x4, x5, x6, x7, x8, x9] t (0, 0)) := by
  rw [heap_setCell_same w b 1 _ _ y h]
  rfl
theorem ct2 {w : World} {b : Nat} {t : TypeId} {x0 x1 x2 x3 x4 x5 x6 x7 x8 x9 : Value} (h : w.heap[b]? = some (.cells #[x0, x1, x2, x3, x4, x5, x6, x7, x8, x9] t (0, 0))) (y : Value) : (w.setCell ⟨b, 2, none⟩ y).heap[b]? = some (.cells #[x0, x1, y, x3, x4, x5, x6, x7, x8, x9] t (0, 0)) := by
  rw [heap_setCell_same w b 2 _ _ y h]
  rfl
theorem ct3 {w : World} {b : Nat} {t : TypeId} {x0 x1 x2 x3 x4 x5 x6 x7 x8 x9 : Value} (h : w.heap[b]? = some (.cells #[x0, x1, x2, x3, x4, x5, x6, x7, x8, x9] t (0, 0))) (y : Value) : (w.setCell ⟨b, 3, none⟩ y).heap[b]? = some (.cells #[x0, x1, x2, y, x4, x5, x6, x7, x8, x9] t (0, 0)) := by
  rw [heap_setCell_same w b 3 _ _ y h]
  rfl
theorem ct4 {w : World} {b : Nat} {t : TypeId} {x0 x1 x2 x3 x4 x5 x6 x7 x8 x9 : Value} (h : w.heap[b]? = some (.cells #[x0, x1, x2, x3, x4, x5, x6, x7, x8, x9] t (0, 0))) (y : Value) : (w.setCell ⟨b, 4, none⟩ y).heap[b]? = some (.cells #[x0, x1, x2, x3, y, x5, x6, x7, x8, x9] t (0, 0)) := by
  rw [heap_setCell_same w b 4 _ _ y h]
  rfl
theorem ct5 {w : World} {b : Nat} {t : TypeId} {x0 x1 x2 x3 x4 x5 x6 x7 x8 x9 : Value} (h : w.heap[b]? = some (.cells #[x0, x1, x2, x3, x4, x5, x6, x7, x8, x9] t (0, 0))) (y : Value) : (w.setCell ⟨b, 5, none⟩ y).heap[b]? = some (.cells #[x0, x1, x2, x3, x4, y, x6, x7, x8, x9] t (0, 0)) := by
  rw [heap_setCell_same w b 5 _ _ y h]
  rfl
theorem ct6 {w : World} {b : Nat} {t : TypeId} {x0 x1 x2 x3 x4 x5 x6 x7 x8 x9 : Value} (h : w.heap[b]? = some (.cells #[x0, x1, x2, x3, x4, x5, x6, x7, x8, x9] t (0, 0))) (y : Value) : (w.setCell ⟨b, 6, none⟩ y).heap[b]? = some (.cells #[x0, x1, x2, x3, x4, x5, y, x7, x8, x9] t (0, 0)) := by
  rw [heap_setCell_same w b 6 _ _ y h]
  rfl
theorem ct7 {w : World} {b : Nat} {t : TypeId} {x0 x1 x2 x3 x4 x5 x6 x7 x8 x9 : Value} (h : w.heap[b]? = some (.cells #[x0, x1, x2, x3, x4, x5, x6, x7, x8, x9] t (0, 0))) (y : Value) : (w.setCell ⟨b, 7, none⟩ y).heap[b]? = some (.cells #[x0, x1, x2, x3, x4, x5, x6, y, x8, x9] t (0, 0)) := by
  rw [heap_setCell_same w b 7 _ _ y h]
  rfl
theorem ct8 {w : World} {b : Nat} {t : TypeId} {x0 x1 x2 x3 x4 x5 x6 x7 x8 x9 : Value} (h : w.heap[b]? = some (.cells #[x0, x1, x2, x3, x4, x5, x6, x7, x8, x9] t (0, 0))) (y : Value) : (w.setCell ⟨b, 8, none⟩ y).heap[b]? = some (.cells #[x0, x1, x2, x3, x4, x5, x6, x7, y, x9] t (0, 0)) := by
  rw [heap_setCell_same w b 8 _ _ y h]
  rfl
theorem ct9 {w : World} {b : Nat} {t : TypeId} {x0 x1 x2 x3 x4 x5 x6 x7 x8 x9 : Value} (h : w.heap[b]? = some (.cells #[x0, x1, x2, x3, x4, x5, x6, x7, x8, x9] t (0, 0))) (y : Value) : (w.setCell ⟨b, 9, none⟩ y).heap[b]? = some (.cells #[x0, x1, x2, x3, x4, x5, x6, x7, x8, y] t (0, 0)) := by
  rw [heap_setCell_same w b 9 _ _ y h]
  rfl
end
set_option maxHeartbeats 4000000 in
set_option maxRecDepth 100000 in
theorem step_write (b : Nat) (V : VLay) (Sv : Vw) (L : Lay) (M : Mem) (q : Nat) (node : Int) (c : Crd) (t : ByteArray) (o : Bop) (w : World) (h : FSt w b V Sv L M q node c t) (n0 : 0 ≤ node) (n1 : node < 24) (hq2 : q < 900000000) (hk : o.k = 0) :
    Calls Tryz.prog 10 #[.pointer (some ⟨b, 0, none⟩), .agg #[.int .i64 o.kind, .int .i64 o.at_, .int .i64 o.n, .string o.data]] w fun e w' => StepTo b V L M q node w w' e := by
  have HST : Hid (FSt w b V Sv L M q node c t) := h
  have HQ : Hid (0 ≤ node ∧ node < 24 ∧ q < 900000000) := ⟨n0, n1, hq2⟩
  have HK : Hid (∀ w1, Calls Tryz.prog 21 #[.agg #[.int .i64 o.kind, .int .i64 o.at_, .int .i64 o.n, .string o.data]] w1 fun e w' => e = .returned (.int .i64 0) ∧ Below w1.heap.size w1 w') := fun w1 => by
    have := kind_any o w1
    rw [hk] at this
    exact this
  have HWR : Hid (∀ w1, Below w.heap.size w w1 → Calls Tryz.prog 15 #[.pointer (some ⟨V.vb, 0, none⟩), .int .i64 node, .agg #[.int .i64 c.k, .int .i64 c.l, .int .i64 c.s, .int .u64 c.v, .int .i64 c.d0, .int .i64 c.d1, .int .i64 c.d2, .int .i64 c.d3, .int .i64 c.d4, .int .i64 c.m], .int .i64 o.at_, .string o.data] w1 fun e w' => DidW AnyX V L M M.read node c t (docWE t o.at_ o.data).1 (docWE t o.at_ o.data).2 w1 w' e) := fun w1 hb =>
    pwrite_any w1 V Sv L M q node c t o.at_ o.data ⟨h.rest.on.later hb, h.rest.own, h.rest.away, h.rest.stops, h.rest.len, h.rest.calls⟩ n0 n1 h.ok
  have HRW : Hid (∀ w1, Calls Tryz.prog 22 #[.string t, .int .i64 o.at_, .string o.data] w1 fun e w' => e = .returned (.tuple #[.string (docWE t o.at_ o.data).1, .int .i64 (docWE t o.at_ o.data).2]) ∧ Below w1.heap.size w1 w') := fun w1 => rwrite_any t o.at_ o.data w1 h.ok.le
  obtain ⟨T, hT⟩ : ∃ T, (docWE t o.at_ o.data).1 = T := ⟨_, rfl⟩
  obtain ⟨f, hf⟩ : ∃ f, (docWE t o.at_ o.data).2 = f := ⟨_, rfl⟩
  rw [hT, hf] at HWR HRW
  clear hT hf h n0 n1 hq2 hk
  go_enter Tryz.func10, Tryz.ntmps10
  have hba : Below w.heap.size w (w.alloc (.cells #[.int .i64 o.kind, .int .i64 o.at_, .int .i64 o.n, .string o.data] 30)) := (Below.refl _ _).alloc (Nat.le_refl _) _
  have hbx : OpAt (w.alloc (.cells #[.int .i64 o.kind, .int .i64 o.at_, .int .i64 o.n, .string o.data] 30)) w.heap.size o := heap_alloc_new _ _
  have HBA : Hid _ := hba
  have HBX : Hid (OpAt (w.alloc (.cells #[.int .i64 o.kind, .int .i64 o.at_, .int .i64 o.n, .string o.data] 30)) w.heap.size o) := hbx
  clear hba hbx
  go_wp2_with fail
  refine Calls.mono (HK.out _) ?_
  rintro e w2 ⟨rfl, hb2⟩
  have HB2 : Hid (Below w.heap.size w w2) := HBA.out.trans (hb2.mono (by simp))
  have HX2 : Hid (OpAt w2 w.heap.size o) := by show OpAt _ _ _; unfold OpAt; rw [hb2.block _ (by simp)]; exact HBX.out
  clear hb2
  have HF2 : Hid (FObjC w2 b V.vb L.mb node c t) := HST.out.obj.later HB2.out
  obtain ⟨x0, x1, x2, x3⟩ := HX2.out.cells
  have f0 := HF2.out.c0
  have f2 := HF2.out.c2
  have f3 := HF2.out.c3
  have f4 := HF2.out.c4
  have f5 := HF2.out.c5
  have f6 := HF2.out.c6
  have f7 := HF2.out.c7
  have f8 := HF2.out.c8
  have f9 := HF2.out.c9
  have f10 := HF2.out.c10
  have f11 := HF2.out.c11
  have f12 := HF2.out.c12
  have f13 := HF2.out.c13
  have ne1 : w2.heap.size ≠ b := by have := HF2.out.lt; omega
  have ne2 : w2.heap.size ≠ w.heap.size := by have := HX2.out; unfold OpAt at this; have := (Array.getElem?_eq_some_iff.1 this).1; omega
  have ne3 : b ≠ w2.heap.size := fun e => ne1 e.symm
  have ne4 : w.heap.size ≠ w2.heap.size := fun e => ne2 e.symm
  go_wp2
  go_region_held3 (fun v' => v'.cell? ⟨b, 0, none⟩ = some (.pointer (some ⟨V.vb, 0, none⟩)) ∧ v'.cell? ⟨b, 2, none⟩ = some (.int .i64 node) ∧ v'.cell? ⟨b, 3, none⟩ = some (.int .i64 c.k) ∧ v'.cell? ⟨b, 4, none⟩ = some (.int .i64 c.l) ∧ v'.cell? ⟨b, 5, none⟩ = some (.int .i64 c.s) ∧ v'.cell? ⟨b, 6, none⟩ = some (.int .u64 c.v) ∧ v'.cell? ⟨b, 7, none⟩ = some (.int .i64 c.d0) ∧ v'.cell? ⟨b, 8, none⟩ = some (.int .i64 c.d1) ∧ v'.cell? ⟨b, 9, none⟩ = some (.int .i64 c.d2) ∧ v'.cell? ⟨b, 10, none⟩ = some (.int .i64 c.d3) ∧ v'.cell? ⟨b, 11, none⟩ = some (.int .i64 c.d4) ∧ v'.cell? ⟨b, 12, none⟩ = some (.int .i64 c.m) ∧ v'.cell? ⟨b, 13, none⟩ = some (.string t) ∧ v'.cell? ⟨w.heap.size, 1, none⟩ = some (.int .i64 o.at_) ∧ v'.cell? ⟨w.heap.size, 2, none⟩ = some (.int .i64 o.n) ∧ v'.cell? ⟨w.heap.size, 3, none⟩ = some (.string o.data)) (first | go_keep | fail "KEEP")
    (first
      | (go_at_call 15; refine Calls.mono (HWR.out _ (by first | exact HB2.out | exact HB2.out.drew | exact (HB2.out.alloc HB2.out.size _).drew | exact HB2.out.alloc HB2.out.size _)) ?_; rintro e w5 ⟨er, c2, S5, N5, rfl, hdid⟩; have HDID : Hid (∃ wq, Below w2.heap.size w2 wq ∧ Did AnyX V L M M.read node c t T er f c2 S5 N5 wq w5) := ⟨_, (by first | exact Below.refl _ _ | exact (Below.refl _ _).drew | exact (Below.refl _ _).alloc (Nat.le_refl _) _ | exact ((Below.refl _ _).alloc (Nat.le_refl _) _).drew), hdid⟩; (try (have hz : w5.heap[w2.heap.size]? = some (.cells #[.int .i64 0, .int .i64 0, .int .i64 0, .int .u64 0, .int .i64 0, .int .i64 0, .int .i64 0, .int .i64 0, .int .i64 0, .int .i64 0] 39 (0, 0)) := (hdid.only.block _ (by simp) (fun hm => by have := HST.out.rest.on.view.all_lt _ (blocks_sub hm); have := HB2.out.size; omega)).trans (heap_alloc_new w2 _); have HZ5 : CardAt w5 w2.heap.size 0 0 0 0 0 0 0 0 0 0 := hz; obtain ⟨z0, z1, z2, z3, z4, z5, z6, z7, z8, z9⟩ := HZ5.ten; have zf := fun i => frozen_of_row w5 _ i _ _ hz; clear HZ5)); clear hdid; have HF5 : Hid (FObjC w5 b V.vb L.mb node c t) := (by obtain ⟨wq, h1, h2⟩ := HDID.out; exact (HF2.out.later h1).only h2.only (fun hm => HST.out.bV (blocks_sub hm))); have HX5 : Hid (OpAt w5 w.heap.size o) := (by obtain ⟨wq, h1, h2⟩ := HDID.out; exact (HX2.out.only (Only.of_below (S := []) h1) (by simp)).only h2.only (fun hm => by have := HST.out.rest.on.view.all_lt _ (blocks_sub hm); omega)); obtain ⟨x0, x1, x2, x3⟩ := HX5.out.cells; have f0 := HF5.out.c0; have f2 := HF5.out.c2; have f3 := HF5.out.c3; have f4 := HF5.out.c4; have f5 := HF5.out.c5; have f6 := HF5.out.c6; have f7 := HF5.out.c7; have f8 := HF5.out.c8; have f9 := HF5.out.c9; have f10 := HF5.out.c10; have f11 := HF5.out.c11; have f12 := HF5.out.c12; have f13 := HF5.out.c13))
  all_goals clear x0 x1 x2 x3 f0 f2 f3 f4 f5 f6 f7 f8 f9 f10 f11 f12 f13 ne1 ne2 ne3
  all_goals try clear z0 z1 z2 z3 z4 z5 z6 z7 z8 z9 zf
  all_goals
    first
      | (have hHO : Only V.blocks w (w5.alloc (.cells #[.int .i64 c2.k, .int .i64 c2.l, .int .i64 c2.s, .int .u64 c2.v, .int .i64 c2.d0, .int .i64 c2.d1, .int .i64 c2.d2, .int .i64 c2.d3, .int .i64 c2.d4, .int .i64 c2.m] 39)) := by
           obtain ⟨wq, h1, h2⟩ := HDID.out
           exact (Only.of_below HB2.out).trans ((Only.of_below h1).trans (h2.only.trans (Only.of_below ((Below.refl _ _).alloc (Nat.le_refl _) _))))
         have hON : On (w5.alloc (.cells #[.int .i64 c2.k, .int .i64 c2.l, .int .i64 c2.s, .int .u64 c2.v, .int .i64 c2.d0, .int .i64 c2.d1, .int .i64 c2.d2, .int .i64 c2.d3, .int .i64 c2.d4, .int .i64 c2.m] 39)) V S5 N5 L M := HDID.out.elim fun wq h => h.2.on.later ((Below.refl _ _).alloc (Nat.le_refl _) _)
         have hCX : CardAt (w5.alloc (.cells #[.int .i64 c2.k, .int .i64 c2.l, .int .i64 c2.s, .int .u64 c2.v, .int .i64 c2.d0, .int .i64 c2.d1, .int .i64 c2.d2, .int .i64 c2.d3, .int .i64 c2.d4, .int .i64 c2.m] 39)) w5.heap.size c2.k c2.l c2.s c2.v c2.d0 c2.d1 c2.d2 c2.d3 c2.d4 c2.m := heap_alloc_new _ _
         have hXX : OpAt (w5.alloc (.cells #[.int .i64 c2.k, .int .i64 c2.l, .int .i64 c2.s, .int .u64 c2.v, .int .i64 c2.d0, .int .i64 c2.d1, .int .i64 c2.d2, .int .i64 c2.d3, .int .i64 c2.d4, .int .i64 c2.m] 39)) w.heap.size o := HX5.out.only (Only.of_below (S := []) ((Below.refl _ _).alloc (Nat.le_refl _) _)) (by simp)
         obtain ⟨bx, hbx⟩ : ∃ x, w5.heap.size = x := ⟨_, rfl⟩
         obtain ⟨wX, hwX⟩ : ∃ x, (w5.alloc (.cells #[.int .i64 c2.k, .int .i64 c2.l, .int .i64 c2.s, .int .u64 c2.v, .int .i64 c2.d0, .int .i64 c2.d1, .int .i64 c2.d2, .int .i64 c2.d3, .int .i64 c2.d4, .int .i64 c2.m] 39)) = x := ⟨_, rfl⟩
         rw [hbx] at hCX
         rw [hwX] at hHO hON hCX hXX
         rw [hwX, hbx]
         have HHO : Hid (Only V.blocks w wX) := hHO
         have HXX : Hid (OpAt wX w.heap.size o) := hXX
         have HON : Hid (On wX V S5 N5 L M) := hON
         have HCX : Hid (CardAt wX bx c2.k c2.l c2.s c2.v c2.d0 c2.d1 c2.d2 c2.d3 c2.d4 c2.m) := hCX
         clear hwX hbx hHO hON hCX hXX)
      | (have hob : Only [w2.heap.size] w5 (((((((((((w5.setCell ⟨w2.heap.size, 0, none⟩ (.int .i64 c2.k)).setCell ⟨w2.heap.size, 1, none⟩ (.int .i64 c2.l)).setCell ⟨w2.heap.size, 2, none⟩ (.int .i64 c2.s)).setCell ⟨w2.heap.size, 3, none⟩ (.int .u64 c2.v)).setCell ⟨w2.heap.size, 4, none⟩ (.int .i64 c2.d0)).setCell ⟨w2.heap.size, 5, none⟩ (.int .i64 c2.d1)).setCell ⟨w2.heap.size, 6, none⟩ (.int .i64 c2.d2)).setCell ⟨w2.heap.size, 7, none⟩ (.int .i64 c2.d3)).setCell ⟨w2.heap.size, 8, none⟩ (.int .i64 c2.d4)).setCell ⟨w2.heap.size, 9, none⟩ (.int .i64 c2.m))) := (((((((((((Only.refl _ w5).setCell (p := ⟨w2.heap.size, 0, none⟩) (by simp) _).setCell (p := ⟨w2.heap.size, 1, none⟩) (by simp) _).setCell (p := ⟨w2.heap.size, 2, none⟩) (by simp) _).setCell (p := ⟨w2.heap.size, 3, none⟩) (by simp) _).setCell (p := ⟨w2.heap.size, 4, none⟩) (by simp) _).setCell (p := ⟨w2.heap.size, 5, none⟩) (by simp) _).setCell (p := ⟨w2.heap.size, 6, none⟩) (by simp) _).setCell (p := ⟨w2.heap.size, 7, none⟩) (by simp) _).setCell (p := ⟨w2.heap.size, 8, none⟩) (by simp) _).setCell (p := ⟨w2.heap.size, 9, none⟩) (by simp) _)
         have hHO : Only V.blocks w (((((((((((w5.setCell ⟨w2.heap.size, 0, none⟩ (.int .i64 c2.k)).setCell ⟨w2.heap.size, 1, none⟩ (.int .i64 c2.l)).setCell ⟨w2.heap.size, 2, none⟩ (.int .i64 c2.s)).setCell ⟨w2.heap.size, 3, none⟩ (.int .u64 c2.v)).setCell ⟨w2.heap.size, 4, none⟩ (.int .i64 c2.d0)).setCell ⟨w2.heap.size, 5, none⟩ (.int .i64 c2.d1)).setCell ⟨w2.heap.size, 6, none⟩ (.int .i64 c2.d2)).setCell ⟨w2.heap.size, 7, none⟩ (.int .i64 c2.d3)).setCell ⟨w2.heap.size, 8, none⟩ (.int .i64 c2.d4)).setCell ⟨w2.heap.size, 9, none⟩ (.int .i64 c2.m))) := by
           obtain ⟨wq, h1, h2⟩ := HDID.out
           have hsz := HB2.out.size
           exact Only.fresh ((Only.of_below HB2.out).trans ((Only.of_below h1).trans h2.only)) hob (fun j hj => by simp at hj; omega)
         have hON : On (((((((((((w5.setCell ⟨w2.heap.size, 0, none⟩ (.int .i64 c2.k)).setCell ⟨w2.heap.size, 1, none⟩ (.int .i64 c2.l)).setCell ⟨w2.heap.size, 2, none⟩ (.int .i64 c2.s)).setCell ⟨w2.heap.size, 3, none⟩ (.int .u64 c2.v)).setCell ⟨w2.heap.size, 4, none⟩ (.int .i64 c2.d0)).setCell ⟨w2.heap.size, 5, none⟩ (.int .i64 c2.d1)).setCell ⟨w2.heap.size, 6, none⟩ (.int .i64 c2.d2)).setCell ⟨w2.heap.size, 7, none⟩ (.int .i64 c2.d3)).setCell ⟨w2.heap.size, 8, none⟩ (.int .i64 c2.d4)).setCell ⟨w2.heap.size, 9, none⟩ (.int .i64 c2.m))) V S5 N5 L M := HDID.out.elim fun wq h => h.2.on.fresh (B := w2.heap.size) hob (fun j hj => by simp at hj; omega) (fun j hj => by have := HST.out.rest.on.view.all_lt j hj; have := HB2.out.size; omega) (fun j hj => by have := HST.out.rest.on.mem.all_lt j hj; have := HB2.out.size; omega)
         have hCX : CardAt (((((((((((w5.setCell ⟨w2.heap.size, 0, none⟩ (.int .i64 c2.k)).setCell ⟨w2.heap.size, 1, none⟩ (.int .i64 c2.l)).setCell ⟨w2.heap.size, 2, none⟩ (.int .i64 c2.s)).setCell ⟨w2.heap.size, 3, none⟩ (.int .u64 c2.v)).setCell ⟨w2.heap.size, 4, none⟩ (.int .i64 c2.d0)).setCell ⟨w2.heap.size, 5, none⟩ (.int .i64 c2.d1)).setCell ⟨w2.heap.size, 6, none⟩ (.int .i64 c2.d2)).setCell ⟨w2.heap.size, 7, none⟩ (.int .i64 c2.d3)).setCell ⟨w2.heap.size, 8, none⟩ (.int .i64 c2.d4)).setCell ⟨w2.heap.size, 9, none⟩ (.int .i64 c2.m))) w2.heap.size c2.k c2.l c2.s c2.v c2.d0 c2.d1 c2.d2 c2.d3 c2.d4 c2.m := (ct9 (ct8 (ct7 (ct6 (ct5 (ct4 (ct3 (ct2 (ct1 (ct0 hz (.int .i64 c2.k)) (.int .i64 c2.l)) (.int .i64 c2.s)) (.int .u64 c2.v)) (.int .i64 c2.d0)) (.int .i64 c2.d1)) (.int .i64 c2.d2)) (.int .i64 c2.d3)) (.int .i64 c2.d4)) (.int .i64 c2.m))
         have hXX : OpAt (((((((((((w5.setCell ⟨w2.heap.size, 0, none⟩ (.int .i64 c2.k)).setCell ⟨w2.heap.size, 1, none⟩ (.int .i64 c2.l)).setCell ⟨w2.heap.size, 2, none⟩ (.int .i64 c2.s)).setCell ⟨w2.heap.size, 3, none⟩ (.int .u64 c2.v)).setCell ⟨w2.heap.size, 4, none⟩ (.int .i64 c2.d0)).setCell ⟨w2.heap.size, 5, none⟩ (.int .i64 c2.d1)).setCell ⟨w2.heap.size, 6, none⟩ (.int .i64 c2.d2)).setCell ⟨w2.heap.size, 7, none⟩ (.int .i64 c2.d3)).setCell ⟨w2.heap.size, 8, none⟩ (.int .i64 c2.d4)).setCell ⟨w2.heap.size, 9, none⟩ (.int .i64 c2.m))) w.heap.size o := HX5.out.only hob (fun hm => ne4 (by simpa using hm))
         obtain ⟨bx, hbx⟩ : ∃ x, w2.heap.size = x := ⟨_, rfl⟩
         obtain ⟨wX, hwX⟩ : ∃ x, (((((((((((w5.setCell ⟨w2.heap.size, 0, none⟩ (.int .i64 c2.k)).setCell ⟨w2.heap.size, 1, none⟩ (.int .i64 c2.l)).setCell ⟨w2.heap.size, 2, none⟩ (.int .i64 c2.s)).setCell ⟨w2.heap.size, 3, none⟩ (.int .u64 c2.v)).setCell ⟨w2.heap.size, 4, none⟩ (.int .i64 c2.d0)).setCell ⟨w2.heap.size, 5, none⟩ (.int .i64 c2.d1)).setCell ⟨w2.heap.size, 6, none⟩ (.int .i64 c2.d2)).setCell ⟨w2.heap.size, 7, none⟩ (.int .i64 c2.d3)).setCell ⟨w2.heap.size, 8, none⟩ (.int .i64 c2.d4)).setCell ⟨w2.heap.size, 9, none⟩ (.int .i64 c2.m))) = x := ⟨_, rfl⟩
         rw [hwX] at hHO hON hCX hXX
         rw [hwX, hbx]
         rw [hbx] at hCX
         have HHO : Hid (Only V.blocks w wX) := hHO
         have HXX : Hid (OpAt wX w.heap.size o) := hXX
         have HON : Hid (On wX V S5 N5 L M) := hON
         have HCX : Hid (CardAt wX bx c2.k c2.l c2.s c2.v c2.d0 c2.d1 c2.d2 c2.d3 c2.d4 c2.m) := hCX
         clear hwX hbx hHO hON hCX hXX hob)
  all_goals clear ne4 HX5 HF5 HX2 HF2 HBX HBA HWR HK
  all_goals
    have HFX : Hid (FObjC wX b V.vb L.mb node c t) := HST.out.obj.only HHO.out (fun hm => HST.out.bV (blocks_sub hm))
    obtain ⟨x0, x1, x2, x3⟩ := HXX.out.cells
    have f13 := HFX.out.c13
    go_wp2
    go_region_held3 (fun v' => v'.cell? ⟨b, 13, none⟩ = some (.string t) ∧ v'.cell? ⟨w.heap.size, 1, none⟩ = some (.int .i64 o.at_) ∧ v'.cell? ⟨w.heap.size, 3, none⟩ = some (.string o.data)) (first | go_keep | fail "KEEP2")
      (first
        | (go_at_call 22; refine Calls.mono (HRW.out _) ?_; rintro e w6 ⟨rfl, hb6⟩; have HB6 : Hid (Below wX.heap.size wX w6) := (by first | exact hb6 | exact (Below.refl _ _).drew.trans hb6); clear hb6; have HX6 : Hid (OpAt w6 w.heap.size o) := HXX.out.only (Only.of_below (S := []) HB6.out) (by simp); have HF6 : Hid (FObjC w6 b V.vb L.mb node c t) := HFX.out.later HB6.out; obtain ⟨x0, x1, x2, x3⟩ := HX6.out.cells; have f13 := HF6.out.c13))
  all_goals
    have HCR : Hid (CardAt w6 bx c2.k c2.l c2.s c2.v c2.d0 c2.d1 c2.d2 c2.d3 c2.d4 c2.m) := HCX.out.later HB6.out
    obtain ⟨c0, c1, c2', c3, c4, c5, c6, c7, c8, c9⟩ := HCR.out.ten
    have HO6 : Hid (Only V.blocks w w6) := HHO.out.trans (Only.of_below HB6.out)
    have HEND : Hid (Calls Tryz.prog 16 #[.pointer (some ⟨b, 0, none⟩), .agg #[.int .i64 c2.k, .int .i64 c2.l, .int .i64 c2.s, .int .u64 c2.v, .int .i64 c2.d0, .int .i64 c2.d1, .int .i64 c2.d2, .int .i64 c2.d3, .int .i64 c2.d4, .int .i64 c2.m], .string T, .int .i64 er, .int .i64 f] w6 fun e w' => EndTo V S5 L M b node c c2 t T er f q w6 w' e) :=
      HDID.out.elim fun wq h => end_any V S5 N5 L M b node c c2 t T er f q w6 (HON.out.later HB6.out) (by have := h.2.small; omega) h.2.away HST.out.rest.stops HST.out.rest.len HST.out.rest.calls HQ.out.2.2 HF6.out HST.out.bV HST.out.bL h.2.like
    clear x0 x1 x2 x3 f13
    go_wp2_with fail
    refine Calls.mono HEND.out ?_
    rintro e w7 ⟨rfl, he⟩
    have HE : Hid (EndTo V S5 L M b node c c2 t T er f q w6 w7 (.returned (.bool true))) := ⟨rfl, he⟩
    clear he
    go_wp2
    go_ret
    exact StepTo.of HST.out (HDID.out.elim fun wq h => h.2.ok) HO6.out HE.out
set_option maxHeartbeats 4000000 in
set_option maxRecDepth 100000 in
theorem step_cutX (b : Nat) (V : VLay) (Sv : Vw) (L : Lay) (M : Mem) (q : Nat) (node : Int) (c : Crd) (t : ByteArray) (o : Bop) (w : World) (h : FSt w b V Sv L M q node c t) (n0 : 0 ≤ node) (n1 : node < 24) (hq2 : q < 900000000) (hk : o.k = 1) :
    Calls Tryz.prog 10 #[.pointer (some ⟨b, 0, none⟩), .agg #[.int .i64 o.kind, .int .i64 o.at_, .int .i64 o.n, .string o.data]] w fun e w' => StepToX (CutX M.read c t o.at_) b V L M q node w w' e := by
  have HST : Hid (FSt w b V Sv L M q node c t) := h
  have HQ : Hid (0 ≤ node ∧ node < 24 ∧ q < 900000000) := ⟨n0, n1, hq2⟩
  have HK : Hid (∀ w1, Calls Tryz.prog 21 #[.agg #[.int .i64 o.kind, .int .i64 o.at_, .int .i64 o.n, .string o.data]] w1 fun e w' => e = .returned (.int .i64 1) ∧ Below w1.heap.size w1 w') := fun w1 => by
    have := kind_any o w1
    rw [hk] at this
    exact this
  have HWR : Hid (∀ w1, Below w.heap.size w w1 → Calls Tryz.prog 23 #[.pointer (some ⟨V.vb, 0, none⟩), .int .i64 node, .agg #[.int .i64 c.k, .int .i64 c.l, .int .i64 c.s, .int .u64 c.v, .int .i64 c.d0, .int .i64 c.d1, .int .i64 c.d2, .int .i64 c.d3, .int .i64 c.d4, .int .i64 c.m], .int .i64 o.at_] w1 fun e w' => DidW (CutX M.read c t o.at_) V L M M.read node c t (docCE t o.at_).1 (docCE t o.at_).2 w1 w' e) := fun w1 hb =>
    pcut_any w1 V Sv L M q node c t o.at_ ⟨h.rest.on.later hb, h.rest.own, h.rest.away, h.rest.stops, h.rest.len, h.rest.calls⟩ n0 n1 h.ok
  have HRW : Hid (∀ w1, Calls Tryz.prog 24 #[.string t, .int .i64 o.at_] w1 fun e w' => e = .returned (.tuple #[.string (docCE t o.at_).1, .int .i64 (docCE t o.at_).2]) ∧ Below w1.heap.size w1 w') := fun w1 => rcut_any t o.at_ w1 h.ok.le
  obtain ⟨T, hT⟩ : ∃ T, (docCE t o.at_).1 = T := ⟨_, rfl⟩
  obtain ⟨f, hf⟩ : ∃ f, (docCE t o.at_).2 = f := ⟨_, rfl⟩
  rw [hT, hf] at HWR HRW
  clear hT hf h n0 n1 hq2 hk
  go_enter Tryz.func10, Tryz.ntmps10
  have hba : Below w.heap.size w (w.alloc (.cells #[.int .i64 o.kind, .int .i64 o.at_, .int .i64 o.n, .string o.data] 30)) := (Below.refl _ _).alloc (Nat.le_refl _) _
  have hbx : OpAt (w.alloc (.cells #[.int .i64 o.kind, .int .i64 o.at_, .int .i64 o.n, .string o.data] 30)) w.heap.size o := heap_alloc_new _ _
  have HBA : Hid _ := hba
  have HBX : Hid (OpAt (w.alloc (.cells #[.int .i64 o.kind, .int .i64 o.at_, .int .i64 o.n, .string o.data] 30)) w.heap.size o) := hbx
  clear hba hbx
  go_wp2_with fail
  refine Calls.mono (HK.out _) ?_
  rintro e w2 ⟨rfl, hb2⟩
  have HB2 : Hid (Below w.heap.size w w2) := HBA.out.trans (hb2.mono (by simp))
  have HX2 : Hid (OpAt w2 w.heap.size o) := by show OpAt _ _ _; unfold OpAt; rw [hb2.block _ (by simp)]; exact HBX.out
  clear hb2
  have HF2 : Hid (FObjC w2 b V.vb L.mb node c t) := HST.out.obj.later HB2.out
  obtain ⟨x0, x1, x2, x3⟩ := HX2.out.cells
  have f0 := HF2.out.c0
  have f2 := HF2.out.c2
  have f3 := HF2.out.c3
  have f4 := HF2.out.c4
  have f5 := HF2.out.c5
  have f6 := HF2.out.c6
  have f7 := HF2.out.c7
  have f8 := HF2.out.c8
  have f9 := HF2.out.c9
  have f10 := HF2.out.c10
  have f11 := HF2.out.c11
  have f12 := HF2.out.c12
  have f13 := HF2.out.c13
  have ne1 : w2.heap.size ≠ b := by have := HF2.out.lt; omega
  have ne2 : w2.heap.size ≠ w.heap.size := by have := HX2.out; unfold OpAt at this; have := (Array.getElem?_eq_some_iff.1 this).1; omega
  have ne3 : b ≠ w2.heap.size := fun e => ne1 e.symm
  have ne4 : w.heap.size ≠ w2.heap.size := fun e => ne2 e.symm
  go_wp2
  go_region_held3 (fun v' => v'.cell? ⟨b, 0, none⟩ = some (.pointer (some ⟨V.vb, 0, none⟩)) ∧ v'.cell? ⟨b, 2, none⟩ = some (.int .i64 node) ∧ v'.cell? ⟨b, 3, none⟩ = some (.int .i64 c.k) ∧ v'.cell? ⟨b, 4, none⟩ = some (.int .i64 c.l) ∧ v'.cell? ⟨b, 5, none⟩ = some (.int .i64 c.s) ∧ v'.cell? ⟨b, 6, none⟩ = some (.int .u64 c.v) ∧ v'.cell? ⟨b, 7, none⟩ = some (.int .i64 c.d0) ∧ v'.cell? ⟨b, 8, none⟩ = some (.int .i64 c.d1) ∧ v'.cell? ⟨b, 9, none⟩ = some (.int .i64 c.d2) ∧ v'.cell? ⟨b, 10, none⟩ = some (.int .i64 c.d3) ∧ v'.cell? ⟨b, 11, none⟩ = some (.int .i64 c.d4) ∧ v'.cell? ⟨b, 12, none⟩ = some (.int .i64 c.m) ∧ v'.cell? ⟨b, 13, none⟩ = some (.string t) ∧ v'.cell? ⟨w.heap.size, 1, none⟩ = some (.int .i64 o.at_) ∧ v'.cell? ⟨w.heap.size, 2, none⟩ = some (.int .i64 o.n) ∧ v'.cell? ⟨w.heap.size, 3, none⟩ = some (.string o.data)) (first | go_keep | fail "KEEP")
    (first
      | (go_at_call 23; refine Calls.mono (HWR.out _ (by first | exact HB2.out | exact HB2.out.drew | exact (HB2.out.alloc HB2.out.size _).drew | exact HB2.out.alloc HB2.out.size _)) ?_; rintro e w5 ⟨er, c2, S5, N5, rfl, hdid⟩; have HDID : Hid (∃ wq, Below w2.heap.size w2 wq ∧ Did (CutX M.read c t o.at_) V L M M.read node c t T er f c2 S5 N5 wq w5) := ⟨_, (by first | exact Below.refl _ _ | exact (Below.refl _ _).drew | exact (Below.refl _ _).alloc (Nat.le_refl _) _ | exact ((Below.refl _ _).alloc (Nat.le_refl _) _).drew), hdid⟩; (try (have hz : w5.heap[w2.heap.size]? = some (.cells #[.int .i64 0, .int .i64 0, .int .i64 0, .int .u64 0, .int .i64 0, .int .i64 0, .int .i64 0, .int .i64 0, .int .i64 0, .int .i64 0] 39 (0, 0)) := (hdid.only.block _ (by simp) (fun hm => by have := HST.out.rest.on.view.all_lt _ (blocks_sub hm); have := HB2.out.size; omega)).trans (heap_alloc_new w2 _); have HZ5 : CardAt w5 w2.heap.size 0 0 0 0 0 0 0 0 0 0 := hz; obtain ⟨z0, z1, z2, z3, z4, z5, z6, z7, z8, z9⟩ := HZ5.ten; have zf := fun i => frozen_of_row w5 _ i _ _ hz; clear HZ5)); clear hdid; have HF5 : Hid (FObjC w5 b V.vb L.mb node c t) := (by obtain ⟨wq, h1, h2⟩ := HDID.out; exact (HF2.out.later h1).only h2.only (fun hm => HST.out.bV (blocks_sub hm))); have HX5 : Hid (OpAt w5 w.heap.size o) := (by obtain ⟨wq, h1, h2⟩ := HDID.out; exact (HX2.out.only (Only.of_below (S := []) h1) (by simp)).only h2.only (fun hm => by have := HST.out.rest.on.view.all_lt _ (blocks_sub hm); omega)); obtain ⟨x0, x1, x2, x3⟩ := HX5.out.cells; have f0 := HF5.out.c0; have f2 := HF5.out.c2; have f3 := HF5.out.c3; have f4 := HF5.out.c4; have f5 := HF5.out.c5; have f6 := HF5.out.c6; have f7 := HF5.out.c7; have f8 := HF5.out.c8; have f9 := HF5.out.c9; have f10 := HF5.out.c10; have f11 := HF5.out.c11; have f12 := HF5.out.c12; have f13 := HF5.out.c13))
  all_goals clear x0 x1 x2 x3 f0 f2 f3 f4 f5 f6 f7 f8 f9 f10 f11 f12 f13 ne1 ne2 ne3
  all_goals try clear z0 z1 z2 z3 z4 z5 z6 z7 z8 z9 zf
  all_goals
    first
      | (have hHO : Only V.blocks w (w5.alloc (.cells #[.int .i64 c2.k, .int .i64 c2.l, .int .i64 c2.s, .int .u64 c2.v, .int .i64 c2.d0, .int .i64 c2.d1, .int .i64 c2.d2, .int .i64 c2.d3, .int .i64 c2.d4, .int .i64 c2.m] 39)) := by
           obtain ⟨wq, h1, h2⟩ := HDID.out
           exact (Only.of_below HB2.out).trans ((Only.of_below h1).trans (h2.only.trans (Only.of_below ((Below.refl _ _).alloc (Nat.le_refl _) _))))
         have hON : On (w5.alloc (.cells #[.int .i64 c2.k, .int .i64 c2.l, .int .i64 c2.s, .int .u64 c2.v, .int .i64 c2.d0, .int .i64 c2.d1, .int .i64 c2.d2, .int .i64 c2.d3, .int .i64 c2.d4, .int .i64 c2.m] 39)) V S5 N5 L M := HDID.out.elim fun wq h => h.2.on.later ((Below.refl _ _).alloc (Nat.le_refl _) _)
         have hCX : CardAt (w5.alloc (.cells #[.int .i64 c2.k, .int .i64 c2.l, .int .i64 c2.s, .int .u64 c2.v, .int .i64 c2.d0, .int .i64 c2.d1, .int .i64 c2.d2, .int .i64 c2.d3, .int .i64 c2.d4, .int .i64 c2.m] 39)) w5.heap.size c2.k c2.l c2.s c2.v c2.d0 c2.d1 c2.d2 c2.d3 c2.d4 c2.m := heap_alloc_new _ _
         have hXX : OpAt (w5.alloc (.cells #[.int .i64 c2.k, .int .i64 c2.l, .int .i64 c2.s, .int .u64 c2.v, .int .i64 c2.d0, .int .i64 c2.d1, .int .i64 c2.d2, .int .i64 c2.d3, .int .i64 c2.d4, .int .i64 c2.m] 39)) w.heap.size o := HX5.out.only (Only.of_below (S := []) ((Below.refl _ _).alloc (Nat.le_refl _) _)) (by simp)
         obtain ⟨bx, hbx⟩ : ∃ x, w5.heap.size = x := ⟨_, rfl⟩
         obtain ⟨wX, hwX⟩ : ∃ x, (w5.alloc (.cells #[.int .i64 c2.k, .int .i64 c2.l, .int .i64 c2.s, .int .u64 c2.v, .int .i64 c2.d0, .int .i64 c2.d1, .int .i64 c2.d2, .int .i64 c2.d3, .int .i64 c2.d4, .int .i64 c2.m] 39)) = x := ⟨_, rfl⟩
         rw [hbx] at hCX
         rw [hwX] at hHO hON hCX hXX
         rw [hwX, hbx]
         have HHO : Hid (Only V.blocks w wX) := hHO
         have HXX : Hid (OpAt wX w.heap.size o) := hXX
         have HON : Hid (On wX V S5 N5 L M) := hON
         have HCX : Hid (CardAt wX bx c2.k c2.l c2.s c2.v c2.d0 c2.d1 c2.d2 c2.d3 c2.d4 c2.m) := hCX
         clear hwX hbx hHO hON hCX hXX)
      | (have hob : Only [w2.heap.size] w5 (((((((((((w5.setCell ⟨w2.heap.size, 0, none⟩ (.int .i64 c2.k)).setCell ⟨w2.heap.size, 1, none⟩ (.int .i64 c2.l)).setCell ⟨w2.heap.size, 2, none⟩ (.int .i64 c2.s)).setCell ⟨w2.heap.size, 3, none⟩ (.int .u64 c2.v)).setCell ⟨w2.heap.size, 4, none⟩ (.int .i64 c2.d0)).setCell ⟨w2.heap.size, 5, none⟩ (.int .i64 c2.d1)).setCell ⟨w2.heap.size, 6, none⟩ (.int .i64 c2.d2)).setCell ⟨w2.heap.size, 7, none⟩ (.int .i64 c2.d3)).setCell ⟨w2.heap.size, 8, none⟩ (.int .i64 c2.d4)).setCell ⟨w2.heap.size, 9, none⟩ (.int .i64 c2.m))) := (((((((((((Only.refl _ w5).setCell (p := ⟨w2.heap.size, 0, none⟩) (by simp) _).setCell (p := ⟨w2.heap.size, 1, none⟩) (by simp) _).setCell (p := ⟨w2.heap.size, 2, none⟩) (by simp) _).setCell (p := ⟨w2.heap.size, 3, none⟩) (by simp) _).setCell (p := ⟨w2.heap.size, 4, none⟩) (by simp) _).setCell (p := ⟨w2.heap.size, 5, none⟩) (by simp) _).setCell (p := ⟨w2.heap.size, 6, none⟩) (by simp) _).setCell (p := ⟨w2.heap.size, 7, none⟩) (by simp) _).setCell (p := ⟨w2.heap.size, 8, none⟩) (by simp) _).setCell (p := ⟨w2.heap.size, 9, none⟩) (by simp) _)
         have hHO : Only V.blocks w (((((((((((w5.setCell ⟨w2.heap.size, 0, none⟩ (.int .i64 c2.k)).setCell ⟨w2.heap.size, 1, none⟩ (.int .i64 c2.l)).setCell ⟨w2.heap.size, 2, none⟩ (.int .i64 c2.s)).setCell ⟨w2.heap.size, 3, none⟩ (.int .u64 c2.v)).setCell ⟨w2.heap.size, 4, none⟩ (.int .i64 c2.d0)).setCell ⟨w2.heap.size, 5, none⟩ (.int .i64 c2.d1)).setCell ⟨w2.heap.size, 6, none⟩ (.int .i64 c2.d2)).setCell ⟨w2.heap.size, 7, none⟩ (.int .i64 c2.d3)).setCell ⟨w2.heap.size, 8, none⟩ (.int .i64 c2.d4)).setCell ⟨w2.heap.size, 9, none⟩ (.int .i64 c2.m))) := by
           obtain ⟨wq, h1, h2⟩ := HDID.out
           have hsz := HB2.out.size
           exact Only.fresh ((Only.of_below HB2.out).trans ((Only.of_below h1).trans h2.only)) hob (fun j hj => by simp at hj; omega)
         have hON : On (((((((((((w5.setCell ⟨w2.heap.size, 0, none⟩ (.int .i64 c2.k)).setCell ⟨w2.heap.size, 1, none⟩ (.int .i64 c2.l)).setCell ⟨w2.heap.size, 2, none⟩ (.int .i64 c2.s)).setCell ⟨w2.heap.size, 3, none⟩ (.int .u64 c2.v)).setCell ⟨w2.heap.size, 4, none⟩ (.int .i64 c2.d0)).setCell ⟨w2.heap.size, 5, none⟩ (.int .i64 c2.d1)).setCell ⟨w2.heap.size, 6, none⟩ (.int .i64 c2.d2)).setCell ⟨w2.heap.size, 7, none⟩ (.int .i64 c2.d3)).setCell ⟨w2.heap.size, 8, none⟩ (.int .i64 c2.d4)).setCell ⟨w2.heap.size, 9, none⟩ (.int .i64 c2.m))) V S5 N5 L M := HDID.out.elim fun wq h => h.2.on.fresh (B := w2.heap.size) hob (fun j hj => by simp at hj; omega) (fun j hj => by have := HST.out.rest.on.view.all_lt j hj; have := HB2.out.size; omega) (fun j hj => by have := HST.out.rest.on.mem.all_lt j hj; have := HB2.out.size; omega)
         have hCX : CardAt (((((((((((w5.setCell ⟨w2.heap.size, 0, none⟩ (.int .i64 c2.k)).setCell ⟨w2.heap.size, 1, none⟩ (.int .i64 c2.l)).setCell ⟨w2.heap.size, 2, none⟩ (.int .i64 c2.s)).setCell ⟨w2.heap.size, 3, none⟩ (.int .u64 c2.v)).setCell ⟨w2.heap.size, 4, none⟩ (.int .i64 c2.d0)).setCell ⟨w2.heap.size, 5, none⟩ (.int .i64 c2.d1)).setCell ⟨w2.heap.size, 6, none⟩ (.int .i64 c2.d2)).setCell ⟨w2.heap.size, 7, none⟩ (.int .i64 c2.d3)).setCell ⟨w2.heap.size, 8, none⟩ (.int .i64 c2.d4)).setCell ⟨w2.heap.size, 9, none⟩ (.int .i64 c2.m))) w2.heap.size c2.k c2.l c2.s c2.v c2.d0 c2.d1 c2.d2 c2.d3 c2.d4 c2.m := (ct9 (ct8 (ct7 (ct6 (ct5 (ct4 (ct3 (ct2 (ct1 (ct0 hz (.int .i64 c2.k)) (.int .i64 c2.l)) (.int .i64 c2.s)) (.int .u64 c2.v)) (.int .i64 c2.d0)) (.int .i64 c2.d1)) (.int .i64 c2.d2)) (.int .i64 c2.d3)) (.int .i64 c2.d4)) (.int .i64 c2.m))
         have hXX : OpAt (((((((((((w5.setCell ⟨w2.heap.size, 0, none⟩ (.int .i64 c2.k)).setCell ⟨w2.heap.size, 1, none⟩ (.int .i64 c2.l)).setCell ⟨w2.heap.size, 2, none⟩ (.int .i64 c2.s)).setCell ⟨w2.heap.size, 3, none⟩ (.int .u64 c2.v)).setCell ⟨w2.heap.size, 4, none⟩ (.int .i64 c2.d0)).setCell ⟨w2.heap.size, 5, none⟩ (.int .i64 c2.d1)).setCell ⟨w2.heap.size, 6, none⟩ (.int .i64 c2.d2)).setCell ⟨w2.heap.size, 7, none⟩ (.int .i64 c2.d3)).setCell ⟨w2.heap.size, 8, none⟩ (.int .i64 c2.d4)).setCell ⟨w2.heap.size, 9, none⟩ (.int .i64 c2.m))) w.heap.size o := HX5.out.only hob (fun hm => ne4 (by simpa using hm))
         obtain ⟨bx, hbx⟩ : ∃ x, w2.heap.size = x := ⟨_, rfl⟩
         obtain ⟨wX, hwX⟩ : ∃ x, (((((((((((w5.setCell ⟨w2.heap.size, 0, none⟩ (.int .i64 c2.k)).setCell ⟨w2.heap.size, 1, none⟩ (.int .i64 c2.l)).setCell ⟨w2.heap.size, 2, none⟩ (.int .i64 c2.s)).setCell ⟨w2.heap.size, 3, none⟩ (.int .u64 c2.v)).setCell ⟨w2.heap.size, 4, none⟩ (.int .i64 c2.d0)).setCell ⟨w2.heap.size, 5, none⟩ (.int .i64 c2.d1)).setCell ⟨w2.heap.size, 6, none⟩ (.int .i64 c2.d2)).setCell ⟨w2.heap.size, 7, none⟩ (.int .i64 c2.d3)).setCell ⟨w2.heap.size, 8, none⟩ (.int .i64 c2.d4)).setCell ⟨w2.heap.size, 9, none⟩ (.int .i64 c2.m))) = x := ⟨_, rfl⟩
         rw [hwX] at hHO hON hCX hXX
         rw [hwX, hbx]
         rw [hbx] at hCX
         have HHO : Hid (Only V.blocks w wX) := hHO
         have HXX : Hid (OpAt wX w.heap.size o) := hXX
         have HON : Hid (On wX V S5 N5 L M) := hON
         have HCX : Hid (CardAt wX bx c2.k c2.l c2.s c2.v c2.d0 c2.d1 c2.d2 c2.d3 c2.d4 c2.m) := hCX
         clear hwX hbx hHO hON hCX hXX hob)
  all_goals clear ne4 HX5 HF5 HX2 HF2 HBX HBA HWR HK
  all_goals
    have HFX : Hid (FObjC wX b V.vb L.mb node c t) := HST.out.obj.only HHO.out (fun hm => HST.out.bV (blocks_sub hm))
    obtain ⟨x0, x1, x2, x3⟩ := HXX.out.cells
    have f13 := HFX.out.c13
    go_wp2
    go_region_held3 (fun v' => v'.cell? ⟨b, 13, none⟩ = some (.string t) ∧ v'.cell? ⟨w.heap.size, 1, none⟩ = some (.int .i64 o.at_) ∧ v'.cell? ⟨w.heap.size, 3, none⟩ = some (.string o.data)) (first | go_keep | fail "KEEP2")
      (first
        | (go_at_call 24; refine Calls.mono (HRW.out _) ?_; rintro e w6 ⟨rfl, hb6⟩; have HB6 : Hid (Below wX.heap.size wX w6) := (by first | exact hb6 | exact (Below.refl _ _).drew.trans hb6); clear hb6; have HX6 : Hid (OpAt w6 w.heap.size o) := HXX.out.only (Only.of_below (S := []) HB6.out) (by simp); have HF6 : Hid (FObjC w6 b V.vb L.mb node c t) := HFX.out.later HB6.out; obtain ⟨x0, x1, x2, x3⟩ := HX6.out.cells; have f13 := HF6.out.c13))
  all_goals
    have HCR : Hid (CardAt w6 bx c2.k c2.l c2.s c2.v c2.d0 c2.d1 c2.d2 c2.d3 c2.d4 c2.m) := HCX.out.later HB6.out
    obtain ⟨c0, c1, c2', c3, c4, c5, c6, c7, c8, c9⟩ := HCR.out.ten
    have HO6 : Hid (Only V.blocks w w6) := HHO.out.trans (Only.of_below HB6.out)
    have HEND : Hid (Calls Tryz.prog 16 #[.pointer (some ⟨b, 0, none⟩), .agg #[.int .i64 c2.k, .int .i64 c2.l, .int .i64 c2.s, .int .u64 c2.v, .int .i64 c2.d0, .int .i64 c2.d1, .int .i64 c2.d2, .int .i64 c2.d3, .int .i64 c2.d4, .int .i64 c2.m], .string T, .int .i64 er, .int .i64 f] w6 fun e w' => EndTo V S5 L M b node c c2 t T er f q w6 w' e) :=
      HDID.out.elim fun wq h => end_any V S5 N5 L M b node c c2 t T er f q w6 (HON.out.later HB6.out) (by have := h.2.small; omega) h.2.away HST.out.rest.stops HST.out.rest.len HST.out.rest.calls HQ.out.2.2 HF6.out HST.out.bV HST.out.bL h.2.like
    clear x0 x1 x2 x3 f13
    go_wp2_with fail
    refine Calls.mono HEND.out ?_
    rintro e w7 ⟨rfl, he⟩
    have HE : Hid (EndTo V S5 L M b node c c2 t T er f q w6 w7 (.returned (.bool true))) := ⟨rfl, he⟩
    clear he
    go_wp2
    go_ret
    exact StepToX.of HST.out (HDID.out.elim fun wq h => h.2.ok) (HDID.out.elim fun wq h => h.2.px) HO6.out HE.out
theorem step_cut (b : Nat) (V : VLay) (Sv : Vw) (L : Lay) (M : Mem) (q : Nat) (node : Int) (c : Crd) (t : ByteArray) (o : Bop) (w : World) (h : FSt w b V Sv L M q node c t) (n0 : 0 ≤ node) (n1 : node < 24) (hq2 : q < 900000000) (hk : o.k = 1) :
    Calls Tryz.prog 10 #[.pointer (some ⟨b, 0, none⟩), .agg #[.int .i64 o.kind, .int .i64 o.at_, .int .i64 o.n, .string o.data]] w fun e w' => StepTo b V L M q node w w' e :=
  (step_cutX b V Sv L M q node c t o w h n0 n1 hq2 hk).mono fun _ _ h => h.weak
/-- What the document answers of a Read. -/
def docRE (t : ByteArray) (at_ n : Int) : ByteArray × Int := if at_ < 0 ∨ n < 0 ∨ 4096 < n then (⟨#[]⟩, 1) else (docR t at_.toNat n.toNat, 0)
theorem span_doc {W : Int → Int} {mp : Nat → Int} {t : ByteArray} (ht : t.size ≤ 2688) (hb : ∀ i, i < 2688 → fileB W mp i = Wd.bAt t i) (at_ n : Nat) : span W mp (min at_ 2688) (min (min at_ 2688 + n) t.size) = docR t at_ n := by
  unfold span docR
  rw [show min (min at_ 2688 + n) t.size - min at_ 2688 = min (at_ + n) t.size - at_ by omega]
  refine Wd.mkB_congr fun i hi => ?_
  rw [show min at_ 2688 = at_ by omega]
  exact hb _ (by omega)
theorem pread_any (w : World) (V : VLay) (Sv : Vw) (N : Nat) (L : Lay) (M : Mem) (node : Int) (c : Crd) (t : ByteArray) (at_ n : Int) (hr : On w V Sv N L M) (ok : FOk (Sv.word M) node c t) (ha : at_ ≤ 9223372036854775807) :
    Calls Tryz.prog 14 #[.pointer (some ⟨V.vb, 0, none⟩), .agg #[.int .i64 c.k, .int .i64 c.l, .int .i64 c.s, .int .u64 c.v, .int .i64 c.d0, .int .i64 c.d1, .int .i64 c.d2, .int .i64 c.d3, .int .i64 c.d4, .int .i64 c.m], .int .i64 at_, .int .i64 n] w fun e w' => e = .returned (.tuple #[.string (docRE t at_ n).1, .int .i64 (docRE t at_ n).2]) ∧ Below w.heap.size w w' := by
  unfold docRE
  by_cases h : at_ < 0 ∨ n < 0 ∨ 4096 < n
  · rw [if_pos h]
    exact bread_arg V c.k c.l c.s c.v c.d0 c.d1 c.d2 c.d3 c.d4 c.m at_ n w h
  · rw [if_neg h]
    have hs := ok.size
    have hle := ok.le
    have hx := bread_any V Sv N L M c.k c.l c.s c.v c.d0 c.d1 c.d2 c.d3 c.d4 c.m at_.toNat n.toNat w hr ok.file.1.mrng.1 ok.file.1.mrng.2 ok.file.may ok.file.1.rng (by omega) (by omega) (by omega) (by omega)
    rw [Int.toNat_of_nonneg (by omega), Int.toNat_of_nonneg (by omega), show c.s.toNat = t.size by omega, span_doc hle ok.bytes] at hx
    exact hx
theorem rread_any (t : ByteArray) (at_ n : Int) (w : World) (ht : t.size ≤ 2688) (ha : at_ ≤ 9223372036854775807) : Calls Tryz.prog 25 #[.string t, .int .i64 at_, .int .i64 n] w fun e w' => e = .returned (.tuple #[.string (docRE t at_ n).1, .int .i64 (docRE t at_ n).2]) ∧ Below w.heap.size w w' := by
  unfold docRE
  by_cases h : at_ < 0 ∨ n < 0 ∨ 4096 < n
  · rw [if_pos h]
    exact rread_arg t at_ n w h
  · rw [if_neg h]
    have hx := rread_yes t at_.toNat n.toNat w ht (by omega) (by omega)
    rw [Int.toNat_of_nonneg (by omega), Int.toNat_of_nonneg (by omega)] at hx
    exact hx
set_option maxHeartbeats 4000000 in
set_option maxRecDepth 100000 in
theorem step_read (b : Nat) (V : VLay) (Sv : Vw) (L : Lay) (M : Mem) (q : Nat) (node : Int) (c : Crd) (t : ByteArray) (o : Bop) (w : World) (h : FSt w b V Sv L M q node c t) (ha : o.at_ ≤ 9223372036854775807) (hk : o.k = 2) :
    Calls Tryz.prog 10 #[.pointer (some ⟨b, 0, none⟩), .agg #[.int .i64 o.kind, .int .i64 o.at_, .int .i64 o.n, .string o.data]] w fun e w' => StepTo b V L M q node w w' e := by
  have HST : Hid (FSt w b V Sv L M q node c t) := h
  have HK : Hid (∀ w1, Calls Tryz.prog 21 #[.agg #[.int .i64 o.kind, .int .i64 o.at_, .int .i64 o.n, .string o.data]] w1 fun e w' => e = .returned (.int .i64 2) ∧ Below w1.heap.size w1 w') := fun w1 => by
    have := kind_any o w1
    rw [hk] at this
    exact this
  have hW : Sv.word M = M.read := funext h.rest.word
  have HRD : Hid (∀ w1, Below w.heap.size w w1 → Calls Tryz.prog 14 #[.pointer (some ⟨V.vb, 0, none⟩), .agg #[.int .i64 c.k, .int .i64 c.l, .int .i64 c.s, .int .u64 c.v, .int .i64 c.d0, .int .i64 c.d1, .int .i64 c.d2, .int .i64 c.d3, .int .i64 c.d4, .int .i64 c.m], .int .i64 o.at_, .int .i64 o.n] w1 fun e w' => e = .returned (.tuple #[.string (docRE t o.at_ o.n).1, .int .i64 (docRE t o.at_ o.n).2]) ∧ Below w1.heap.size w1 w') := fun w1 hb =>
    pread_any w1 V Sv 0 L M node c t o.at_ o.n (h.rest.on.later hb) (by rw [hW]; exact h.ok) ha
  have HRR : Hid (∀ w1, Calls Tryz.prog 25 #[.string t, .int .i64 o.at_, .int .i64 o.n] w1 fun e w' => e = .returned (.tuple #[.string (docRE t o.at_ o.n).1, .int .i64 (docRE t o.at_ o.n).2]) ∧ Below w1.heap.size w1 w') := fun w1 => rread_any t o.at_ o.n w1 h.ok.le ha
  obtain ⟨T, hT⟩ : ∃ T, (docRE t o.at_ o.n).1 = T := ⟨_, rfl⟩
  obtain ⟨f, hf⟩ : ∃ f, (docRE t o.at_ o.n).2 = f := ⟨_, rfl⟩
  rw [hT, hf] at HRD HRR
  clear hT hf h ha hk hW
  go_enter Tryz.func10, Tryz.ntmps10
  have hba : Below w.heap.size w (w.alloc (.cells #[.int .i64 o.kind, .int .i64 o.at_, .int .i64 o.n, .string o.data] 30)) := (Below.refl _ _).alloc (Nat.le_refl _) _
  have hbx : OpAt (w.alloc (.cells #[.int .i64 o.kind, .int .i64 o.at_, .int .i64 o.n, .string o.data] 30)) w.heap.size o := heap_alloc_new _ _
  have HBA : Hid _ := hba
  have HBX : Hid (OpAt (w.alloc (.cells #[.int .i64 o.kind, .int .i64 o.at_, .int .i64 o.n, .string o.data] 30)) w.heap.size o) := hbx
  clear hba hbx
  go_wp2_with fail
  refine Calls.mono (HK.out _) ?_
  rintro e w2 ⟨rfl, hb2⟩
  have HB2 : Hid (Below w.heap.size w w2) := HBA.out.trans (hb2.mono (by simp))
  have HX2 : Hid (OpAt w2 w.heap.size o) := by show OpAt _ _ _; unfold OpAt; rw [hb2.block _ (by simp)]; exact HBX.out
  clear hb2
  have HF2 : Hid (FObjC w2 b V.vb L.mb node c t) := HST.out.obj.later HB2.out
  obtain ⟨x0, x1, x2, x3⟩ := HX2.out.cells
  have f0 := HF2.out.c0
  have f2 := HF2.out.c2
  have f3 := HF2.out.c3
  have f4 := HF2.out.c4
  have f5 := HF2.out.c5
  have f6 := HF2.out.c6
  have f7 := HF2.out.c7
  have f8 := HF2.out.c8
  have f9 := HF2.out.c9
  have f10 := HF2.out.c10
  have f11 := HF2.out.c11
  have f12 := HF2.out.c12
  have f13 := HF2.out.c13
  go_wp2
  go_region_held3 (fun v' => v'.cell? ⟨b, 0, none⟩ = some (.pointer (some ⟨V.vb, 0, none⟩)) ∧ v'.cell? ⟨b, 2, none⟩ = some (.int .i64 node) ∧ v'.cell? ⟨b, 3, none⟩ = some (.int .i64 c.k) ∧ v'.cell? ⟨b, 4, none⟩ = some (.int .i64 c.l) ∧ v'.cell? ⟨b, 5, none⟩ = some (.int .i64 c.s) ∧ v'.cell? ⟨b, 6, none⟩ = some (.int .u64 c.v) ∧ v'.cell? ⟨b, 7, none⟩ = some (.int .i64 c.d0) ∧ v'.cell? ⟨b, 8, none⟩ = some (.int .i64 c.d1) ∧ v'.cell? ⟨b, 9, none⟩ = some (.int .i64 c.d2) ∧ v'.cell? ⟨b, 10, none⟩ = some (.int .i64 c.d3) ∧ v'.cell? ⟨b, 11, none⟩ = some (.int .i64 c.d4) ∧ v'.cell? ⟨b, 12, none⟩ = some (.int .i64 c.m) ∧ v'.cell? ⟨b, 13, none⟩ = some (.string t) ∧ v'.cell? ⟨w.heap.size, 1, none⟩ = some (.int .i64 o.at_) ∧ v'.cell? ⟨w.heap.size, 2, none⟩ = some (.int .i64 o.n) ∧ v'.cell? ⟨w.heap.size, 3, none⟩ = some (.string o.data)) (first | go_keep | fail "KEEP")
    (first
      | (go_at_call 14; refine Calls.mono (HRD.out _ (by first | exact HB2.out | exact HB2.out.drew)) ?_; rintro e w5 ⟨rfl, hb5⟩; have HB5 : Hid (Below w2.heap.size w2 w5) := (by first | exact hb5 | exact (Below.refl _ _).drew.trans hb5); clear hb5; have HF5 : Hid (FObjC w5 b V.vb L.mb node c t) := HF2.out.later HB5.out; have HX5 : Hid (OpAt w5 w.heap.size o) := HX2.out.only (Only.of_below (S := []) HB5.out) (by simp); obtain ⟨x0, x1, x2, x3⟩ := HX5.out.cells; have f0 := HF5.out.c0; have f2 := HF5.out.c2; have f3 := HF5.out.c3; have f4 := HF5.out.c4; have f5 := HF5.out.c5; have f6 := HF5.out.c6; have f7 := HF5.out.c7; have f8 := HF5.out.c8; have f9 := HF5.out.c9; have f10 := HF5.out.c10; have f11 := HF5.out.c11; have f12 := HF5.out.c12; have f13 := HF5.out.c13))
  all_goals
    clear f0 f2 f3 f4 f5 f6 f7 f8 f9 f10 f11 f12
    go_wp2
    go_region_held3 (fun v' => v'.cell? ⟨b, 13, none⟩ = some (.string t) ∧ v'.cell? ⟨w.heap.size, 1, none⟩ = some (.int .i64 o.at_) ∧ v'.cell? ⟨w.heap.size, 2, none⟩ = some (.int .i64 o.n)) (first | go_keep | fail "KEEP2")
      (first
        | (go_at_call 25; refine Calls.mono (HRR.out _) ?_; rintro e w6 ⟨rfl, hb6⟩; have HB6 : Hid (Below w5.heap.size w5 w6) := (by first | exact hb6 | exact (Below.refl _ _).drew.trans hb6); clear hb6; have HX6 : Hid (OpAt w6 w.heap.size o) := HX5.out.only (Only.of_below (S := []) HB6.out) (by simp); have HF6 : Hid (FObjC w6 b V.vb L.mb node c t) := HF5.out.later HB6.out; obtain ⟨x0, x1, x2, x3⟩ := HX6.out.cells; have f13 := HF6.out.c13))
  all_goals
    go_wp2
    go_ret
    have hb : Below w.heap.size w w6 := HB2.out.trans ((HB5.out.mono HB2.out.size).trans (HB6.out.mono (by have := HB2.out.size; have := HB5.out.size; omega)))
    exact ⟨by first | rfl | simp, V, Sv, M, c, t, rfl, fun x hx => .inl hx, ⟨⟨HST.out.rest.on.later hb, HST.out.rest.own, HST.out.rest.away, HST.out.rest.stops, HST.out.rest.len, by have := HST.out.rest.calls; omega⟩, HST.out.obj.later hb, HST.out.bV, HST.out.bL, HST.out.ok⟩, Keeps.refl _ _, Only.of_below hb⟩
theorem step_any (b : Nat) (V : VLay) (Sv : Vw) (L : Lay) (M : Mem) (q : Nat) (node : Int) (c : Crd) (t : ByteArray) (o : Bop) (w : World) (h : FSt w b V Sv L M q node c t) (n0 : 0 ≤ node) (n1 : node < 24) (hq2 : q < 900000000) (ha : o.at_ ≤ 9223372036854775807) :
    Calls Tryz.prog 10 #[.pointer (some ⟨b, 0, none⟩), .agg #[.int .i64 o.kind, .int .i64 o.at_, .int .i64 o.n, .string o.data]] w fun e w' => StepTo b V L M q node w w' e := by
  rcases kind_three o.kind with hk | hk | hk
  · exact step_write b V Sv L M q node c t o w h n0 n1 hq2 hk
  · exact step_cut b V Sv L M q node c t o w h n0 n1 hq2 hk
  · exact step_read b V Sv L M q node c t o w h ha hk
/-- Another file stays what it is. -/
theorem FOk.other {W W' : Int → Int} {node n2 : Int} {c : Crd} {t : ByteArray} (h : FOk W n2 c t) (k : Keeps W W' node) (hn : n2 ≠ node) (h0 : 0 ≤ n2) : FOk W' n2 c t := by
  have hF := h.file.1
  have hrow : c.m ≠ -1 → ∀ i : Nat, i < 16 → W' (1288 + 16 * c.m + (i : Int)) = W (1288 + 16 * c.m + (i : Int)) := fun hx => by
    have hm := hF.mrng
    have ho := (hF.mown hx).1
    exact (k.oth c.m (by omega) hm.2 (by omega) (by omega)).2
  have hmp : ∀ i, i < 21 → mapF W' c.d0 c.d1 c.d2 c.d3 c.d4 c.m i = mapF W c.d0 c.d1 c.d2 c.d3 c.d4 c.m i := fun i hi => by
    unfold mapF
    by_cases e : c.m = -1
    · rw [if_pos e, if_pos e]
    · rw [if_neg e, if_neg e]
      by_cases i5 : i < 5
      · rw [if_pos i5, if_pos i5]
      · rw [if_neg i5, if_neg i5]
        have := hrow e (i - 5) (by omega)
        rw [this]
  refine ⟨h.kind, ⟨(hF.other k hn h0).congr hmp, fun hx => ?_⟩, h.size, h.le, fun i hi => ?_⟩
  · obtain ⟨i, h1, h2⟩ := h.file.2 hx
    exact ⟨i, h1, by rw [hrow hx i h1]; exact h2⟩
  · have e := fileB_other hF k hn h0 i hi
    unfold fileB at e ⊢
    rw [hmp (i / 128) (by omega), e]
    exact h.bytes i hi

end Go.Proofs.YtdjnkibnnjobpaaGreat
