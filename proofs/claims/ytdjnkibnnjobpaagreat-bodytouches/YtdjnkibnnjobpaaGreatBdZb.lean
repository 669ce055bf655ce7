/- One file, its step behind its step; a file without blocks. -/
import Derived.Test.YtdjnkibnnjobpaaGreatBdZa
namespace Go.Proofs.YtdjnkibnnjobpaaGreat
open Go.RowKit Go.Maps Go.ChangeMaps

/-- One file on a memory of its own. -/
structure Lone (w0 w : World) (b : Nat) (V : VLay) (S : Vw) (L : Lay) (M : Mem) (q : Nat) (c : Crd) (t : ByteArray) : Prop where
  f : FSt w b V S L M q 2 c t
  one : ∀ x, 0 ≤ x → x < 96 → M.read (200 + x) = 0 ∨ M.read (200 + x) = 3
  bel : Below w0.heap.size w0 w
  low : w0.heap.size ≤ b
  lowV : ∀ x ∈ V.all, w0.heap.size ≤ x
  lowL : ∀ x ∈ L.blocks, w0.heap.size ≤ x
/-- What a step leaves of it. -/
def LoneTo (PX : (Int → Int) → Crd → ByteArray → Prop) (w0 : World) (b vb : Nat) (L : Lay) (q : Nat) (w' : World) (e : Ending) : Prop := e = .returned (.bool true) ∧ ∃ V' S' M' c t, V'.vb = vb ∧ Lone w0 w' b V' S' L M' (q + 2824) c t ∧ PX M'.read c t
section
variable {w0 w w' : World} {b : Nat} {V : VLay} {S : Vw} {L : Lay} {M : Mem} {q : Nat} {c : Crd} {t : ByteArray} {e : Ending}
theorem Lone.later (h : Lone w0 w b V S L M q c t) (hb : Below w.heap.size w w') : Lone w0 w' b V S L M q c t :=
  { h with f := h.f.later hb, bel := h.bel.trans (hb.mono h.bel.size) }
theorem Lone.mono {q2 : Nat} (h : Lone w0 w b V S L M q c t) (hq : q ≤ q2) : Lone w0 w b V S L M q2 c t := { h with f := h.f.mono hq }
theorem Lone.stepX {PX : (Int → Int) → Crd → ByteArray → Prop} (h : Lone w0 w b V S L M q c t) (hs : StepToX PX b V L M q 2 w w' e) : LoneTo PX w0 b V.vb L q w' e := by
  obtain ⟨h0, V', S', M', c', t', hvb, hsub, hf, hk, ho, hp⟩ := hs
  refine ⟨h0, V', S', M', c', t', hvb, ⟨hf, fun x x0 x1 => hk.mine x x0 x1 (h.one x x0 x1), h.bel.trans (ho.below h.bel.size fun k hm => ?_), h.low, fun x hx => (hsub x hx).elim (h.lowV x) (fun y => Nat.le_trans h.bel.size y), h.lowL⟩, hp⟩
  simp only [List.cons_append, List.mem_cons, List.mem_append] at hm
  rcases hm with hm | hm | hm
  · rw [hm]; exact h.low
  · exact h.lowV k (blocks_sub hm)
  · exact h.lowL k hm
theorem Lone.step (h : Lone w0 w b V S L M q c t) (hs : StepTo b V L M q 2 w w' e) : LoneTo AnyX w0 b V.vb L q w' e := by
  obtain ⟨h0, V', S', M', c', t', h1, h2, h3, h4, h5⟩ := hs
  exact h.stepX ⟨h0, V', S', M', c', t', h1, h2, h3, h4, h5, trivial⟩
theorem Lone.call (h : Lone w0 w b V S L M q c t) (o : Bop) (hq : q < 900000000) (ha : o.at_ ≤ 9223372036854775807) :
    Calls Tryz.prog 10 #[.pointer (some ⟨b, 0, none⟩), .agg #[.int .i64 o.kind, .int .i64 o.at_, .int .i64 o.n, .string o.data]] w fun e w' => LoneTo AnyX w0 b V.vb L q w' e :=
  (step_any b V S L M q 2 c t o w h.f (by omega) (by omega) hq ha).mono fun _ _ hs => h.step hs
theorem Lone.cut (h : Lone w0 w b V S L M q c t) (n : Int) (hq : q < 900000000) :
    Calls Tryz.prog 10 #[.pointer (some ⟨b, 0, none⟩), .agg #[.int .i64 1, .int .i64 n, .int .i64 0, .string ⟨#[]⟩]] w fun e w' => LoneTo (CutX M.read c t n) w0 b V.vb L q w' e :=
  (step_cutX b V S L M q 2 c t ⟨1, n, 0, ⟨#[]⟩⟩ w h.f (by omega) (by omega) hq (by rfl)).mono fun _ _ hs => h.stepX hs
theorem sz_some (x : Int) : ∃ n : Nat, IntKind.i64.wrap ((IntKind.u64.wrap x).tmod 2689) = (n : Int) ∧ n ≤ 2688 := by
  have h : 0 ≤ IntKind.u64.wrap x := by rw [IntKind.wrap_u64]; omega
  rw [Int.tmod_eq_emod_of_nonneg h]
  have h2 : 0 ≤ IntKind.u64.wrap x % 2689 ∧ IntKind.u64.wrap x % 2689 < 2689 := by omega
  exact ⟨(IntKind.u64.wrap x % 2689).toNat, by rw [IntKind.wrap_i64]; omega, by omega⟩
/-- No place has a block. -/
def NoBlk (W : Int → Int) (c : Crd) : Prop := ∀ i, i < 21 → mapF W c.d0 c.d1 c.d2 c.d3 c.d4 c.m i = -1
theorem noMore {W : Int → Int} {node : Int} (hF : FileIs W node c.d0 c.d1 c.d2 c.d3 c.d4 c.m) (hn : NoBlk W c) : c.m = -1 := by
  by_cases hm : c.m = -1
  · exact hm
  · obtain ⟨i, hi, hx⟩ := hF.2 hm
    have e := hn (5 + i) (by omega)
    unfold mapF at e
    rw [if_neg hm, if_neg (by omega), show 5 + i - 5 = i by omega] at e
    omega
theorem own_none {mp : Nat → Int} {mr : Int} (h : ∀ i, i < 21 → mp i = -1) (hm : mr = -1) : ownL mp mr = [] := by
  unfold ownL
  rw [List.filter_eq_nil_iff]
  intro x hx
  rcases List.mem_append.1 hx with hx | hx
  · obtain ⟨i, hi, rfl⟩ := List.mem_map.1 hx
    rw [h i (List.mem_range.1 hi)]
    decide
  · rw [List.mem_singleton.1 hx, hm]
    decide
theorem Lone.own0 (h : Lone w0 w b V S L M q c t) (hn : NoBlk M.read c) : ownL (mapF M.read c.d0 c.d1 c.d2 c.d3 c.d4 c.m) c.m = [] := own_none hn (noMore h.f.ok.file hn)
theorem Lone.free0 (h : Lone w0 w b V S L M q c t) (hn : NoBlk M.read c) : nFresh S M 96 = 96 := by
  have hW : S.word M = M.read := funext h.f.rest.word
  have h0 := h.own0 hn
  have := nFresh_list S M 96 [] List.nodup_nil (fun x hx => by simp at hx) fun x hx => by
    rw [freshB_eq (by omega) (by omega), hW, h.f.rest.away]
    have h1 := h.one (x : Int) (by omega) (by omega)
    have h2 := ownL_mem h.f.ok.file.1 (x : Int)
    have hz : M.read (200 + (x : Int)) = 0 := by
      rcases h1 with h1 | h1
      · exact h1
      · have := h2.2 ⟨by omega, by omega, h1⟩
        rw [h0] at this
        simp at this
    rw [hz]
    simp [Vw.new]
  simpa using this
theorem FSt.read {node : Int} (h : FSt w b V S L M q node c t) : Calls Tryz.prog 14 #[.pointer (some ⟨V.vb, 0, none⟩), .agg #[.int .i64 c.k, .int .i64 c.l, .int .i64 c.s, .int .u64 c.v, .int .i64 c.d0, .int .i64 c.d1, .int .i64 c.d2, .int .i64 c.d3, .int .i64 c.d4, .int .i64 c.m], .int .i64 0, .int .i64 4096] w fun e w' => e = .returned (.tuple #[.string t, .int .i64 0]) ∧ Below w.heap.size w w' := by
  have hW : S.word M = M.read := funext h.rest.word
  have hx := pread_any w V S 0 L M node c t 0 4096 h.rest.on (by rw [hW]; exact h.ok) (by omega)
  have e : docRE t 0 4096 = (t, 0) := by
    unfold docRE
    rw [if_neg (by omega)]
    exact congrArg (fun x => (x, (0 : Int))) (docR_all t (by have := h.ok.le; omega))
  rw [e] at hx
  exact hx
/-- A cut to nothing, and then to any size. -/
theorem cut_zero {W W' : Int → Int} {c c' : Crd} {t t' : ByteArray} (h : CutX W c t 0 W' c' t') : t' = docC t 0 ∧ NoBlk W' c' := by
  obtain ⟨h1, h2⟩ := h (by omega) (by omega)
  exact ⟨h1, fun i hi => (h2 i hi).2 (.inr (by simp))⟩
theorem cut_more {W W' : Int → Int} {c c' : Crd} {t t' : ByteArray} {n : Nat} (h : CutX W c t (n : Int) W' c' t') (hn : n ≤ 2688) (h0 : NoBlk W c) : t' = docC t n ∧ NoBlk W' c' := by
  obtain ⟨h1, h2⟩ := h (by omega) (by omega)
  exact ⟨h1, fun i hi => (h2 i hi).2 (.inl (h0 i hi))⟩
end

end Go.Proofs.YtdjnkibnnjobpaaGreat
