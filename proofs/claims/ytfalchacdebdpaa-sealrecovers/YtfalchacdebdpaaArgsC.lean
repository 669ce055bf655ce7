/- What a slice of crashes that came in is. -/
import Derived.Test.YtfalchacdebdpaaMade
namespace Go.Proofs.Ytfalchacdebdpaa
open Go.RowKit Go.Maps Go.ChangeMaps Go.Deep Go.Joins Go.WideShapes

/-- A crash of the law's: its step, what is kept, what is evicted. -/
structure Crs where
  at_ : Int
  keep : List Bool
  ev : List Int

/-- A slice of bools that came in. -/
def KeepAt (W : World) (v : Value) (ks : List Bool) : Prop :=
  ∃ ka kc, v = .slice ka ks.length kc ∧ ks.length ≤ 9223372036854775807 ∧ (ks = [] ∨ ∃ kb ko, ka = some ⟨kb, ko, none⟩ ∧ kb < W.heap.size ∧ ∀ i, i < ks.length → W.cell? ⟨kb, ko + i, none⟩ = some (.bool (ks.getD i false)))
theorem KeepAt.is {W w : World} {S : List Nat} {v : Value} {ks : List Bool} (h : KeepAt W v ks) (hb : Below W.heap.size W w) (hS : ∀ k ∈ S, W.heap.size ≤ k) : KeepIs w S v ks := by
  obtain ⟨ka, kc, e, _, h1⟩ := h
  refine ⟨ka, kc, e, ?_⟩
  rcases h1 with h1 | ⟨kb, ko, e1, h2, h3⟩
  · exact .inl h1
  · exact .inr ⟨kb, ko, e1, fun hm => by have := hS kb hm; omega, fun i hi => (hb.cell (p := ⟨kb, ko + i, none⟩) h2).trans (h3 i hi)⟩
theorem KeepAt.len {W : World} {v : Value} {ks : List Bool} (h : KeepAt W v ks) : ks.length ≤ 9223372036854775807 := let ⟨_, _, _, h1, _⟩ := h; h1

/-- A slice of numbers that came in. -/
def EvAt (W : World) (v : Value) (l : List Int) : Prop :=
  ∃ ka kc, v = .slice ka l.length kc ∧ l.length ≤ 9223372036854775807 ∧ (l = [] ∨ ∃ kb ko, ka = some ⟨kb, ko, none⟩ ∧ kb < W.heap.size ∧ ∀ i, i < l.length → W.cell? ⟨kb, ko + i, none⟩ = some (.int .i64 (l.getD i 0)) ∧ (Lit.int .i64 (l.getD i 0)).wf = true)

section
variable {H : Type} {enc : TypeId × Value → H} {W : World}

theorem open_keep {n : Nat} {v : Value} {x : DataW H × List MemPlace} (h : DataW.trod enc Try.prog W 0 (fun _ => true) true n 55 [v] = some x) : ∃ ks, KeepAt W v ks := by
  rcases open_slice1 Try.underlying55 (by kernel_rfl) h with ⟨hc, _⟩ | ⟨a, len, cap, m, n', V, D, Pl, hc, _, hl, hm, hmm, _, hx⟩
  · cases hc
    exact ⟨[], none, 0, rfl, by simp, .inl rfl⟩
  · cases hc
    have hm' : m = cap := by simpa using hmm
    subst hm'
    have hB : ∀ i, i < m → ∃ b : Bool, V i = .bool b := fun i hi => by
      obtain ⟨b, hb, _⟩ := DataW.trod_bool Try.underlying4 (hx i hi).2
      exact ⟨b, by simpa using hb⟩
    obtain ⟨B, hB'⟩ := choose_lt hB
    refine ⟨(List.range len).map B, some a, m, by simp, by simp; unfold maxLen at hm; omega, ?_⟩
    by_cases h0 : len = 0
    · left; subst h0; rfl
    · right
      have c0 := (hx 0 (by omega)).1
      have e0 : a = ⟨a.block, a.off, none⟩ := spot_none (by simpa [Addr.add] using c0)
      refine ⟨a.block, a.off, by rw [← e0], ?_, ?_⟩
      · exact World.block_lt_of_cell? W a (by simpa [Addr.add] using c0)
      · intro i hi
        simp at hi
        have := (hx i (by omega)).1
        rw [e0, add_none, hB' i (by omega)] at this
        rw [this]
        simp [hi]
theorem open_ev {n : Nat} {v : Value} {x : DataW H × List MemPlace} (h : DataW.trod enc Try.prog W 0 (fun _ => true) true n 50 [v] = some x) : ∃ l, EvAt W v l := by
  rcases open_slice1 Try.underlying50 (by kernel_rfl) h with ⟨hc, _⟩ | ⟨a, len, cap, m, n', V, D, Pl, hc, _, hl, hm, hmm, _, hx⟩
  · cases hc
    exact ⟨[], none, 0, rfl, by simp, .inl rfl⟩
  · cases hc
    have hm' : m = cap := by simpa using hmm
    subst hm'
    have hB : ∀ i, i < m → ∃ b : Int, V i = .int .i64 b ∧ (Lit.int .i64 b).wf = true := fun i hi => by
      obtain ⟨b, hb, _, wb⟩ := DataW.trod_int Try.underlying3 (hx i hi).2
      exact ⟨b, by simpa using hb, wb⟩
    obtain ⟨B, hB'⟩ := choose_lt hB
    refine ⟨(List.range len).map B, some a, m, by simp, by simp; unfold maxLen at hm; omega, ?_⟩
    by_cases h0 : len = 0
    · left; subst h0; rfl
    · right
      have c0 := (hx 0 (by omega)).1
      have e0 : a = ⟨a.block, a.off, none⟩ := spot_none (by simpa [Addr.add] using c0)
      refine ⟨a.block, a.off, by rw [← e0], ?_, ?_⟩
      · exact World.block_lt_of_cell? W a (by simpa [Addr.add] using c0)
      · intro i hi
        simp at hi
        have h1 := (hx i (by omega)).1
        obtain ⟨h2, h3⟩ := hB' i (by omega)
        rw [e0, add_none, h2] at h1
        have e1 : ((List.range len).map B).getD i 0 = B i := by simp [hi]
        rw [e1]; exact ⟨h1, h3⟩

set_option maxRecDepth 100000 in
/-- A crash's three cells. -/
theorem open_crash {n : Nat} {v0 v1 v2 : Value} {x : DataW H × List MemPlace} (h : DataW.trod enc Try.prog W 0 (fun _ => true) true n 57 [v0, v1, v2] = some x) :
    ∃ o : Crs, v0 = .int .i64 o.at_ ∧ KeepAt W v1 o.keep ∧ EvAt W v2 o.ev := by
  obtain ⟨y0, y1, y2, m, _, _, h0, h1, h2⟩ := trod_struct3 Try.underlying57 h
  obtain ⟨a0, e0, _, w0⟩ := DataW.trod_int Try.underlying3 h0
  have hc0 : Try.prog.cellsOf 3 = 1 := by kernel_rfl
  have hc1 : Try.prog.cellsOf 55 = 1 := by kernel_rfl
  have hc2 : Try.prog.cellsOf 50 = 1 := by kernel_rfl
  have h1' : DataW.trod enc Try.prog W 0 (fun _ => true) true m 55 [v1] = some y1 := by simpa [hc1] using h1
  have h2' : DataW.trod enc Try.prog W 0 (fun _ => true) true m 50 [v2] = some y2 := by simpa [hc2] using h2
  obtain ⟨ks, hk⟩ := open_keep h1'
  obtain ⟨l, hl⟩ := open_ev h2'
  have e0' : [v0] = [Value.int .i64 a0] := by simpa [hc0] using e0
  cases e0'
  exact ⟨⟨a0, ks, l⟩, rfl, hk, hl⟩

def noCrs : Crs := ⟨0, [], []⟩
/-- A crash, at its three cells. -/
def CrsAt (W : World) (b off : Nat) (o : Crs) : Prop :=
  ∃ kv ev, W.cell? ⟨b, off, none⟩ = some (.int .i64 o.at_) ∧ W.cell? ⟨b, off + 1, none⟩ = some kv ∧ W.cell? ⟨b, off + 2, none⟩ = some ev ∧ KeepAt W kv o.keep ∧ EvAt W ev o.ev
/-- Crashes that came in. -/
structure CrsIn (W : World) (a : Option Addr) (cap : Nat) (xs : List Crs) : Prop where
  le : xs.length ≤ cap
  max : cap ≤ 9223372036854775807
  at_ : xs = [] ∨ ∃ b off, a = some ⟨b, off, none⟩ ∧ b < W.heap.size ∧ ∀ i, i < xs.length → CrsAt W b (off + i * 3) (xs.getD i noCrs)

set_option maxRecDepth 100000 in
theorem open_crashes {v : Value} {d : DataW H} {p : List MemPlace} {a : Option Addr} {len cap : Nat} (hv : v = .slice a len cap) (h : DataW.Trod enc Try.prog W 0 (fun _ => true) true 53 v d p) : ∃ xs : List Crs, xs.length = len ∧ CrsIn W a cap xs := by
  subst hv
  obtain ⟨fuel, hf⟩ := h
  rcases open_slice Try.underlying53 hf with ⟨hc, _⟩ | ⟨x, l, c, m, n', D, Pl, hc, _, hl, hm, hmm, _, hx⟩
  · simp [Value.cells] at hc
    obtain ⟨rfl, rfl, rfl⟩ := hc
    exact ⟨[], rfl, by simp, by simp, .inl rfl⟩
  · simp [Value.cells] at hc
    obtain ⟨rfl, rfl, rfl⟩ := hc
    have hm' : m = cap := by simpa using hmm
    subst hm'
    have hc4 : Try.prog.cellsOf 57 = 3 := by kernel_rfl
    rw [hc4] at hx
    have hS : ∀ i, i < m → ∃ o : Crs, CrsAt W x.block (x.off + i * 3) o ∧ (i = 0 → x = ⟨x.block, x.off, none⟩ ∧ x.block < W.heap.size) := fun i hi => by
      obtain ⟨cs, h1, h2⟩ := hx i hi
      obtain ⟨_, hlen, hcell⟩ := World.cells?_some h1
      match cs, hlen with
      | [v0, v1, v2], _ =>
        obtain ⟨o, rfl, hk, he⟩ := open_crash (n := n') h2
        have c0 := hcell 0 (by omega)
        have c1 := hcell 1 (by omega)
        have c2 := hcell 2 (by omega)
        have ea : x.add (i * 3) = ⟨x.block, x.off + i * 3, none⟩ := add_at (v := .int .i64 o.at_) (by simpa [Addr.add] using c0)
        rw [ea, add_none] at c0 c1 c2
        refine ⟨o, ⟨v1, v2, by simpa using c0, by simpa using c1, by simpa using c2, hk, he⟩, fun e => ?_⟩
        subst e
        refine ⟨by simpa [Addr.add] using ea, ?_⟩
        exact World.block_lt_of_cell? W ⟨x.block, x.off, none⟩ (by simpa using c0)
    haveI : Inhabited Crs := ⟨noCrs⟩
    obtain ⟨O, hO⟩ := choose_lt (α := Crs) hS
    refine ⟨(List.range len).map O, by simp, by simpa using hl, by unfold maxLen at hm; omega, ?_⟩
    by_cases h0 : len = 0
    · left; subst h0; rfl
    · right
      obtain ⟨e1, e2⟩ := (hO 0 (by omega)).2 rfl
      refine ⟨x.block, x.off, by rw [← e1], e2, fun i hi => ?_⟩
      simp at hi
      have := (hO i (by omega)).1
      simpa [hi] using this
end

/-! Steps with words evicted between them. -/
/-- The memory is the image behind these steps. -/
structure Went (g0 : Nat → Int) (ss : List Stp) (M : Mem) : Prop where
  len : M.sure.length = 2824
  stops : M.stops = false
  words : ∀ k : Nat, k < 2824 → M.word k = runW k (.sure (g0 k)) ss
theorem Went.of {g0 : Nat → Int} {M : Mem} (h : SureM M g0) (hs : M.stops = false) : Went g0 [] M := ⟨h.1, hs, fun k hk => h.2 k hk⟩
theorem Went.step {g0 : Nat → Int} {ss : List Stp} {M : Mem} (h : Went g0 ss M) {s : Stp} (hf : s.fits 2824) : M.ans s = 0 ∧ Went g0 (ss ++ [s]) (M.act s) := by
  have ha : M.ans s = 0 := by rw [ans_of M s (by rw [h.len]; exact hf)]; exact err_free M h.stops
  refine ⟨ha, by rw [act_len]; exact h.len, (act_stops M s).1.trans h.stops, fun k hk => ?_⟩
  rw [act_word M s ha k (by rw [h.len]; exact hk), h.words k hk, runW_append]; rfl
theorem evict_stops (M : Mem) (k : Int) : (M.evict k).stops = M.stops ∧ (M.evict k).calls = M.calls := by unfold Mem.evict; split <;> exact ⟨rfl, rfl⟩
theorem Went.evict {g0 : Nat → Int} {ss : List Stp} {M : Mem} (h : Went g0 ss M) (hin : M.In) (x : Int) : Went g0 (ss ++ [evStp x]) (M.evict x) := by
  refine ⟨(evict_len M x).trans h.len, (evict_stops M x).1.trans h.stops, fun k hk => ?_⟩
  rw [evict_word M x k (by rw [h.len]; exact hk) hin, h.words k hk, runW_append]; rfl
theorem strip_snoc {ss l : List Stp} {s : Stp} (h : strip ss = l) (hs : s.kind ≠ 4) : strip (ss ++ [s]) = l ++ [s] := by
  rw [strip_append, h]; congr 1; exact strip_real fun o ho => by
    obtain rfl : o = s := by simpa using ho
    exact hs
theorem strip_ev {ss l : List Stp} (h : strip ss = l) (x : Int) : strip (ss ++ [evStp x]) = l := by
  rw [strip_append, h]; simp [strip, evStp]

/-- What holds while the log is made, recovered, crashes; p: it may not be sealed yet. -/
def Good (p : Bool) (g0 : Nat → Int) (cs : List Chg) (M : Mem) : Prop := SureM M (imgF M) ∧ (p = true ∧ StA 1 g0 (imgF M) ∨ StB 1 5 cs g0 (imgF M) ∨ StC 1 cs g0 (imgF M))
def Done (p : Bool) (g0 : Nat → Int) (cs : List Chg) (M : Mem) : Prop := SureM M (imgF M) ∧ (p = true ∧ StA 1 g0 (imgF M) ∨ StC 1 cs g0 (imgF M))

theorem rest_crash {M : Mem} {g : Nat → Int} (hM : SureM M g) (hin : M.In) (ks : List Bool) : ∀ k : Nat, k < 2824 → imgF (M.crash ks) k = imgF M k := fun k hk => by
  obtain ⟨_, c2⟩ := crash_sure hin hM.1 ks
  have := c2 k hk
  rw [hM.2 k hk] at this
  rw [left_sure this, hM.ext hk]
theorem StA.congr {s : Nat} {g0 g g' : Nat → Int} (hs : s < 4) (h : StA s g0 g) (e : ∀ k, k < 2824 → g' k = g k) : StA s g0 g' := by
  have l : logAt s = 296 + 248 * s := rfl
  exact ⟨(e _ (by omega)).trans h.1, fun k hk hi => (e k hk).trans (h.2 k hk hi)⟩
theorem StC.congr {s : Nat} {cs : List Chg} {g0 g g' : Nat → Int} (hs : s < 4) (h : StC s cs g0 g) (e : ∀ k, k < 2824 → g' k = g k) : StC s cs g0 g' := by
  have l : logAt s = 296 + 248 * s := rfl
  exact ⟨(e _ (by omega)).trans h.1, fun k hk hi => (e k hk).trans (h.2 k hk hi)⟩

/-- A round of mending. -/
theorem mend_round {p : Bool} {g0 : Nat → Int} {cs : List Chg} (c : Ctx 1 5 cs g0) (b : Base g0) (hok : ChgOk cs) {M M' : Mem} {k r : Int} (h : Good p g0 cs M) (hr : RecSpec M k r M') (hin : M'.In) (ks : List Bool) :
    (r = 0 ∨ r = 14) ∧ Good p g0 cs (M'.crash ks) ∧ M'.calls ≤ M.calls + 829 := by
  obtain ⟨hM, hs⟩ := h
  have idle : (p = true ∧ StA 1 g0 (imgF M) ∨ StC 1 cs g0 (imgF M)) → (r = 0 ∨ r = 14) ∧ Good p g0 cs (M'.crash ks) ∧ M'.calls ≤ M.calls + 829 := fun hg => by
    obtain ⟨_, h2, rfl⟩ := rec_idle hM c b (hg.imp And.right id) hr
    have e := rest_crash hM hin ks
    refine ⟨.inl h2, ⟨(crash_sure hin hM.1 ks).1, ?_⟩, by omega⟩
    rcases hg with ⟨hp, hg⟩ | hg
    · exact .inl ⟨hp, hg.congr (by decide) e⟩
    · exact .inr (.inr (hg.congr (by decide) e))
  rcases hs with hg | hg | hg
  · exact idle (.inl hg)
  · obtain ⟨h1, h2, h3, h4⟩ := rec_crash ks hM hin c b hok hg hr
    exact ⟨h1, ⟨h2, .inr h3⟩, h4⟩
  · exact idle (.inr hg)
/-- The last recovering. -/
theorem mend_last {p : Bool} {g0 : Nat → Int} {cs : List Chg} (c : Ctx 1 5 cs g0) (b : Base g0) (hok : ChgOk cs) {M M' : Mem} {k r : Int} (h : Good p g0 cs M) (hst : M.stops = false) (hr : RecSpec M k r M') :
    r = 0 ∧ Done p g0 cs M' := by
  obtain ⟨hM, hs⟩ := h
  rcases hs with hg | hg | hg
  · obtain ⟨_, h2, rfl⟩ := rec_idle hM c b (.inl hg.2) hr
    exact ⟨h2, hM, .inl hg⟩
  · obtain ⟨_, h2, h3, h4, _⟩ := rec_free hM hst c b hok hg hr
    exact ⟨h2, h3, .inr h4⟩
  · obtain ⟨_, h2, rfl⟩ := rec_idle hM c b (.inr hg) hr
    exact ⟨h2, hM, .inr hg⟩

end Go.Proofs.Ytfalchacdebdpaa
