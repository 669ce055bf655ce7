/- The document's own view, so far as its calls end and change nothing but its own blocks. -/
import Derived.Test.YtomlbifplliakaaGreatBx
import Derived.Test.YtomlbifplliakaaGreatPlR
import Derived.Test.YtomlbifplliakaaGreatCdRefRead
namespace Go.Proofs.YtomlbifplliakaaGreat
open Go.RowKit Go.Maps Go.ChangeMaps

/-- A bool, a number, whichever. -/
def SomeBool (e : Ending) : Prop := ∃ b, e = .returned (.bool b)
def SomeInt (k : IntKind) (e : Ending) : Prop := ∃ x : Int, e = .returned (.int k x)
/-- Where the document's view lies: its object, its two rows of words. -/
structure RLay where
  rb : Nat
  bb : Nat
  bc : Nat
  nb : Nat
  nc : Nat
def RLay.blocks (R : RLay) : List Nat := [R.rb, R.bb, R.nb]
/-- A row of 2824 words, whichever they are. -/
def RowO (w : World) (b c : Nat) : Prop := ∃ cur : Array Value, w.heap[b]? = some (.cells cur 35 (0, 0)) ∧ 2824 ≤ c ∧ 2824 ≤ cur.size ∧ ∀ i, i < 2824 → ∃ x, cur[i]? = some (.int .u64 x) ∧ (Lit.int .u64 x).wf = true
theorem RowO.of_block {w w' : World} {b c : Nat} (h : RowO w b c) (hb : w'.heap[b]? = w.heap[b]?) : RowO w' b c := by
  obtain ⟨cur, h1, h2⟩ := h
  exact ⟨cur, hb.trans h1, h2⟩
theorem RowO.lt {w : World} {b c : Nat} (h : RowO w b c) : b < w.heap.size := let ⟨_, h1, _⟩ := h; (Array.getElem?_eq_some_iff.1 h1).1
theorem RowO.cap {w : World} {b c : Nat} (h : RowO w b c) : 2824 ≤ c := let ⟨_, _, h2, _⟩ := h; h2
theorem RowO.cell {w : World} {b c : Nat} (h : RowO w b c) (i : Nat) (hi : i < 2824) : ∃ x, w.cell? ⟨b, i, none⟩ = some (.int .u64 x) ∧ (Lit.int .u64 x).wf = true := by
  obtain ⟨cur, h1, _, _, h4⟩ := h
  obtain ⟨x, hx, hw⟩ := h4 i hi
  exact ⟨x, (cell_of_row w b i _ _ _ h1).trans hx, hw⟩
theorem RowO.frozen {w : World} {b c : Nat} (h : RowO w b c) (i : Nat) : w.frozen? ⟨b, i, none⟩ = false := let ⟨_, h1, _⟩ := h; frozen_of_row w b i _ _ h1
theorem RowO.set {w : World} {b c : Nat} (h : RowO w b c) (i : Nat) (v : Int) (hv : (Lit.int .u64 v).wf = true) : RowO (w.setCell ⟨b, i, none⟩ (.int .u64 v)) b c := by
  obtain ⟨cur, h1, h2, h3, h4⟩ := h
  refine ⟨_, heap_setCell_same w b i cur _ _ h1, h2, by simpa using h3, fun j hj => ?_⟩
  by_cases e : i = j
  · subst e
    exact ⟨v, by simp [show i < cur.size by omega], hv⟩
  · rw [Array.getElem?_setIfInBounds_ne e]; exact h4 j hj
/-- The words of such a row as a function. -/
theorem RowO.words {w : World} {b c : Nat} (h : RowO w b c) : ∃ f : Nat → Int, ∀ i, i < 2824 → w.cell? ⟨b, i, none⟩ = some (.int .u64 (f i)) ∧ (Lit.int .u64 (f i)).wf = true :=
  ⟨fun i => if hi : i < 2824 then Classical.choose (h.cell i hi) else 0, fun i hi => by
    simp only [hi, dif_pos]
    exact Classical.choose_spec (h.cell i hi)⟩
/-- Behind a copy of m words to the place off. -/
theorem RowO.copied {w : World} {b c : Nat} (h : RowO w b c) (off m : Nat) (f : Nat → Int) (hm : off + m ≤ 2824) (hf : ∀ i, i < m → (Lit.int .u64 (f i)).wf = true) (dLen dCap sb so sCap : Nat) (hd : m ≤ dLen) (hs : ∀ i, i < m → w.cell? ⟨sb, so + i, none⟩ = some (.int .u64 (f i))) :
    ∃ w', (Builtin.copy_ #[25, 25] 3 #[.slice (some ⟨b, off, none⟩) dLen dCap, .slice (some ⟨sb, so, none⟩) m sCap]).run Tryz.prog w = .ok (.int .i64 m) w' ∧ RowO w' b c ∧ Only [b] w w' := by
  obtain ⟨cur, h1, h2, h3, h4⟩ := h
  have hr := run_copy_row (P := Tryz.prog) w 25 25 3 35 b off dLen dCap ⟨sb, so, none⟩ m sCap cur 35 (rowI f m) Tryz.underlying25 size22b h1 (by rw [rowI_len]; exact (Nat.min_eq_left hd).symm) ?src (by rw [rowI_len]; omega) (rowI_one _ _)
  case src =>
    intro j v hj
    by_cases hjm : j < m
    · rw [rowI_at f m j hjm] at hj
      cases hj
      rw [Addr.add_lit]
      exact hs j hjm
    · rw [rowI_out f m j hjm] at hj
      cases hj
  rw [rowI_len] at hr
  refine ⟨_, hr, ⟨_, setRow_heap w b _ _ _ _ h1, h2, ?_, fun i hi => ?_⟩, ⟨rfl, rfl, rfl, by simp [World.setRow], fun k _ hk => setRow_other w b k _ (by simpa using hk)⟩⟩
  · simp [rowI_len]; omega
  · obtain ⟨x, hx, hw⟩ := h4 i hi
    have hx' : cur.toList[i]? = some (.int .u64 x) := by rw [Array.getElem?_toList]; exact hx
    rw [List.getElem?_toArray]
    by_cases e1 : i < off
    · refine ⟨x, ?_, hw⟩
      rw [List.append_assoc, List.getElem?_append_left (by rw [List.length_take, Array.length_toList]; omega), List.getElem?_take, if_pos e1]
      exact hx'
    · by_cases e2 : i < off + m
      · refine ⟨f (i - off), ?_, hf _ (by omega)⟩
        rw [List.append_assoc, List.getElem?_append_right (by rw [List.length_take]; omega), List.length_take, Array.length_toList, Nat.min_eq_left (by omega), List.getElem?_append_left (by rw [rowI_len]; omega)]
        exact rowI_at f m _ (by omega)
      · refine ⟨x, ?_, hw⟩
        rw [List.getElem?_append_right (by rw [List.length_append, List.length_take, rowI_len]; omega), List.length_append, List.length_take, Array.length_toList, rowI_len, Nat.min_eq_left (by omega), List.getElem?_drop]
        rw [show off + m + (i - (off + m)) = i by omega]
        exact hx'
/-- A row that append has made of such a row. -/
theorem RowO.of_own {w : World} {B b c : Nat} {f : Nat → Int} (h : w.ownsRow B 35 1 (.slice (some ⟨b, 0, none⟩) 2824 c) 2824 (rowI f 2824)) (hf : ∀ i, i < 2824 → (Lit.int .u64 (f i)).wf = true) : RowO w b c := by
  rcases h.2 with ⟨e, _⟩ | ⟨g, cap, cur, e, _, hb, hle, _, hcs, htake⟩
  · cases e
  · cases e
    refine ⟨cur, hb, hle, by omega, fun i hi => ⟨f i, ?_, hf i hi⟩⟩
    have := rowI_at f 2824 i hi
    rw [← htake, List.getElem?_take, if_pos (by omega)] at this
    rw [← Array.getElem?_toList]
    exact this

structure RefIs (w0 w : World) (R : RLay) : Prop where
  bel : Below w0.heap.size w0 w
  obj : ∃ cs : Array Value, w.heap[R.rb]? = some (.cells cs 65 (0, 0)) ∧ cs[0]? = some (.slice (some ⟨R.bb, 0, none⟩) 2824 R.bc) ∧ cs[1]? = some (.slice (some ⟨R.nb, 0, none⟩) 2824 R.nc) ∧ (∀ i, i < 48 → ∃ b, cs[2 + i]? = some (.bool b)) ∧
    (∃ a n c f, cs[50]? = some (.slice a n c) ∧ IntsAt w0 a n f ∧ n ≤ 9223372036854775807) ∧ (∃ a n c f, cs[51]? = some (.slice a n c) ∧ IntsAt w0 a n f ∧ n ≤ 9223372036854775807)
  base : RowO w R.bb R.bc
  now : RowO w R.nb R.nc
  apart : R.bb ≠ R.nb
  low : ∀ j ∈ R.blocks, w0.heap.size ≤ j

section
variable {w0 w w' : World} {R : RLay}
theorem RefIs.rlt (h : RefIs w0 w R) : R.rb < w.heap.size := let ⟨_, hb, _⟩ := h.obj; (Array.getElem?_eq_some_iff.1 hb).1
theorem RefIs.rb_row (h : RefIs w0 w R) : R.rb ≠ R.bb ∧ R.rb ≠ R.nb := by
  obtain ⟨cs, hb, _⟩ := h.obj
  constructor
  · intro e
    obtain ⟨cur, hb', _⟩ := h.base
    rw [← e, hb] at hb'; cases hb'
  · intro e
    obtain ⟨cur, hb', _⟩ := h.now
    rw [← e, hb] at hb'; cases hb'
theorem RefIs.all_lt (h : RefIs w0 w R) : ∀ j ∈ R.blocks, j < w.heap.size := by
  intro j hj
  simp only [RLay.blocks, List.mem_cons, List.not_mem_nil, or_false] at hj
  rcases hj with rfl | rfl | rfl
  · exact h.rlt
  · exact h.base.lt
  · exact h.now.lt
theorem RefIs.of_blocks (h : RefIs w0 w R) (hbel : Below w0.heap.size w0 w') (hb : ∀ j ∈ R.blocks, j < w.heap.size → w'.heap[j]? = w.heap[j]?) : RefIs w0 w' R := by
  obtain ⟨cs, h1, h2⟩ := h.obj
  exact ⟨hbel, ⟨cs, (hb _ (by simp [RLay.blocks]) h.rlt).trans h1, h2⟩, h.base.of_block (hb _ (by simp [RLay.blocks]) h.base.lt), h.now.of_block (hb _ (by simp [RLay.blocks]) h.now.lt), h.apart, h.low⟩
theorem RefIs.later (h : RefIs w0 w R) (hb : Below w.heap.size w w') : RefIs w0 w' R := h.of_blocks (h.bel.trans (hb.mono h.bel.size)) fun j _ hl => hb.block j hl
theorem RefIs.kept (h : RefIs w0 w R) {X : List Nat} (ho : Only X w w') (hX : ∀ j ∈ R.blocks, j ∉ X) (hl : ∀ j ∈ X, w0.heap.size ≤ j) : RefIs w0 w' R :=
  h.of_blocks (h.bel.trans (ho.below h.bel.size hl)) fun j hj hl => ho.block j hl (hX j hj)
theorem RefIs.cell (h : RefIs w0 w R) : ∃ cs : Array Value, (∀ i, w.cell? ⟨R.rb, i, none⟩ = cs[i]?) ∧ (∀ i, w.frozen? ⟨R.rb, i, none⟩ = false) ∧ cs[0]? = some (.slice (some ⟨R.bb, 0, none⟩) 2824 R.bc) ∧ cs[1]? = some (.slice (some ⟨R.nb, 0, none⟩) 2824 R.nc) ∧ (∀ i, i < 48 → ∃ b, cs[2 + i]? = some (.bool b)) ∧
    (∃ a n c f, cs[50]? = some (.slice a n c) ∧ IntsAt w0 a n f ∧ n ≤ 9223372036854775807) ∧ (∃ a n c f, cs[51]? = some (.slice a n c) ∧ IntsAt w0 a n f ∧ n ≤ 9223372036854775807) := by
  obtain ⟨cs, h1, h2⟩ := h.obj
  exact ⟨cs, fun i => cell_of_row w R.rb i _ _ _ h1, fun i => frozen_of_row w R.rb i _ _ h1, h2⟩
theorem RefIs.c0 (h : RefIs w0 w R) : w.cell? ⟨R.rb, 0, none⟩ = some (.slice (some ⟨R.bb, 0, none⟩) 2824 R.bc) := let ⟨_, h1, _, h2, _⟩ := h.cell; (h1 0).trans h2
theorem RefIs.c1 (h : RefIs w0 w R) : w.cell? ⟨R.rb, 1, none⟩ = some (.slice (some ⟨R.nb, 0, none⟩) 2824 R.nc) := let ⟨_, h1, _, _, h2, _⟩ := h.cell; (h1 1).trans h2
theorem RefIs.cb (h : RefIs w0 w R) (i : Nat) (hi : i < 48) : ∃ b, w.cell? ⟨R.rb, 2 + i, none⟩ = some (.bool b) := by
  obtain ⟨_, h1, _, _, _, h2, _⟩ := h.cell
  obtain ⟨b, hb⟩ := h2 i hi
  exact ⟨b, (h1 _).trans hb⟩
theorem RefIs.c50 (h : RefIs w0 w R) : ∃ a n c f, w.cell? ⟨R.rb, 50, none⟩ = some (.slice a n c) ∧ IntsAt w a n f ∧ n ≤ 9223372036854775807 := by
  obtain ⟨_, h1, _, _, _, _, ⟨a, n, c, f, h2, h3, h4⟩, _⟩ := h.cell
  exact ⟨a, n, c, f, (h1 50).trans h2, h3.later (Nat.le_refl _) h.bel, h4⟩
theorem RefIs.c51 (h : RefIs w0 w R) : ∃ a n c f, w.cell? ⟨R.rb, 51, none⟩ = some (.slice a n c) ∧ IntsAt w a n f ∧ n ≤ 9223372036854775807 := by
  obtain ⟨_, h1, _, _, _, _, _, a, n, c, f, h2, h3, h4⟩ := h.cell
  exact ⟨a, n, c, f, (h1 51).trans h2, h3.later (Nat.le_refl _) h.bel, h4⟩
theorem RefIs.fz (h : RefIs w0 w R) (i : Nat) : w.frozen? ⟨R.rb, i, none⟩ = false := let ⟨_, _, h1, _⟩ := h.cell; h1 i
theorem RefIs.only (h : RefIs w0 w R) {X : List Nat} (ho : Only X w w') (hX : ∀ j ∈ X, j ∈ R.blocks) : Below w0.heap.size w0 w' := h.bel.trans (ho.below h.bel.size fun j hj => h.low j (hX j hj))
/-- A word of the newer row has been stored. -/
theorem RefIs.setNow (h : RefIs w0 w R) (i : Nat) (v : Int) (hv : (Lit.int .u64 v).wf = true) : RefIs w0 (w.setCell ⟨R.nb, i, none⟩ (.int .u64 v)) R := by
  obtain ⟨cs, h1, h2⟩ := h.obj
  have hr := h.rb_row
  exact ⟨h.bel.setCell (h.low _ (by simp [RLay.blocks])) _, ⟨cs, (Below.heap_setCell _ _ _ _ hr.2).trans h1, h2⟩, h.base.of_block (Below.heap_setCell _ _ _ _ h.apart), h.now.set i v hv, h.apart, h.low⟩
/-- A bool has been stored. -/
theorem RefIs.setBool (h : RefIs w0 w R) (i : Nat) (hi : i < 48) (b : Bool) : RefIs w0 (w.setCell ⟨R.rb, 2 + i, none⟩ (.bool b)) R := by
  obtain ⟨cs, h1, h2, h3, h4, ⟨a5, n5, c5, f5, h5, g5⟩, ⟨a6, n6, c6, f6, h6, g6⟩⟩ := h.obj
  have hr := h.rb_row
  have hs : 2 + i < cs.size := by
    have := (Array.getElem?_eq_some_iff.1 h6).1
    omega
  refine ⟨h.bel.setCell (h.low _ (by simp [RLay.blocks])) _, ⟨_, heap_setCell_same w R.rb (2 + i) cs _ _ h1, ?_, ?_, fun j hj => ?_, ⟨a5, n5, c5, f5, ?_, g5⟩, ⟨a6, n6, c6, f6, ?_, g6⟩⟩, h.base.of_block (Below.heap_setCell _ _ _ _ hr.1.symm), h.now.of_block (Below.heap_setCell _ _ _ _ hr.2.symm), h.apart, h.low⟩
  · rw [Array.getElem?_setIfInBounds_ne (by omega)]; exact h2
  · rw [Array.getElem?_setIfInBounds_ne (by omega)]; exact h3
  · by_cases e : i = j
    · subst e; exact ⟨b, by simp [hs]⟩
    · rw [Array.getElem?_setIfInBounds_ne (by omega)]; exact h4 j hj
  · rw [Array.getElem?_setIfInBounds_ne (by omega)]; exact h5
  · rw [Array.getElem?_setIfInBounds_ne (by omega)]; exact h6
/-- A slice of numbers has been stored. -/
theorem RefIs.setAway (h : RefIs w0 w R) (i : Nat) (hi : i = 50 ∨ i = 51) (a : Option Addr) (n c : Nat) (f : Nat → Int) (hf : IntsAt w0 a n f) (hn : n ≤ 9223372036854775807) : RefIs w0 (w.setCell ⟨R.rb, i, none⟩ (.slice a n c)) R := by
  obtain ⟨cs, h1, h2, h3, h4, ⟨a5, n5, c5, f5, h5, g5⟩, ⟨a6, n6, c6, f6, h6, g6⟩⟩ := h.obj
  have hr := h.rb_row
  have hs : 51 < cs.size := (Array.getElem?_eq_some_iff.1 h6).1
  refine ⟨h.bel.setCell (h.low _ (by simp [RLay.blocks])) _, ⟨_, heap_setCell_same w R.rb i cs _ _ h1, ?_, ?_, fun j hj => ?_, ?_, ?_⟩, h.base.of_block (Below.heap_setCell _ _ _ _ hr.1.symm), h.now.of_block (Below.heap_setCell _ _ _ _ hr.2.symm), h.apart, h.low⟩
  · rw [Array.getElem?_setIfInBounds_ne (by omega)]; exact h2
  · rw [Array.getElem?_setIfInBounds_ne (by omega)]; exact h3
  · rw [Array.getElem?_setIfInBounds_ne (by omega)]; exact h4 j hj
  · by_cases e : i = 50
    · subst e; exact ⟨a, n, c, f, by simp [show 50 < cs.size by omega], hf, hn⟩
    · rw [Array.getElem?_setIfInBounds_ne e]; exact ⟨a5, n5, c5, f5, h5, g5⟩
  · by_cases e : i = 51
    · subst e; exact ⟨a, n, c, f, by simp [show 51 < cs.size by omega], hf, hn⟩
    · rw [Array.getElem?_setIfInBounds_ne e]; exact ⟨a6, n6, c6, f6, h6, g6⟩
end

set_option maxHeartbeats 1000000 in
theorem has_ints (a : Option Addr) (n c : Nat) (f : Nat → Int) (k : Int) (w : World) (h : IntsAt w a n f) (hn : n ≤ 9223372036854775807) :
    Calls Tryz.prog 42 #[.slice a n c, .int .i64 k] w fun e w' => SomeBool e ∧ w' = w := by
  have HI : Hid (IntsAt w a n f) := h
  clear h
  go_enter Tryz.func42, Tryz.ntmps42
  go_wp2
  go_loop [5] (fun i => ∃ j : Nat, j ≤ n ∧ i = .int .i64 j) (fun i => n - (intOf i).toNat)
  case atStart => exact ⟨0, Nat.zero_le _, rfl⟩
  case round =>
    obtain ⟨j, hj, rfl⟩ := hrel
    by_cases hlt : j < n
    · obtain ⟨b, o, rfl, hbl, hc⟩ := HI.out.resolve_left (by omega)
      have x1 := hc j hlt
      have hb : (j : Int) < (n : Int) := by omega
      obtain ⟨X, hX⟩ : ∃ X, f j = X := ⟨_, rfl⟩
      rw [hX] at x1
      clear hX hc
      by_cases e : X = k
      · subst e
        go_wp2
        go_ret
        exact ⟨⟨_, rfl⟩, rfl⟩
      · have e1 : (X == k) = false := by simpa using e
        clear e
        go_wp2
        go_round
        case rel => exact ⟨j + 1, by omega, by go_num⟩
        case measure => simp [intOf]; omega
    · go_wp2
      go_ret
      exact ⟨⟨_, rfl⟩, rfl⟩

theorem rread (w0 : World) (R : RLay) (k : Int) (w : World) (h : RefIs w0 w R) :
    Calls Tryz.prog 46 #[.pointer (some ⟨R.rb, 0, none⟩), .int .i64 k] w fun e w' => SomeInt .u64 e ∧ w' = w := by
  have c1 := h.c1
  obtain ⟨L, hL⟩ : ∃ L : Nat, 2824 = L := ⟨_, rfl⟩
  rw [hL] at c1
  by_cases hk : 0 ≤ k ∧ k < 2824
  · obtain ⟨j, rfl⟩ : ∃ j : Nat, k = j := ⟨k.toNat, by omega⟩
    obtain ⟨x, hx, _⟩ := h.now.cell j (by omega)
    have h1 : (j : Int) < (L : Int) := by omega
    clear hk hL
    go_enter Tryz.func46, Tryz.ntmps46
    go_wp2
    go_ret
    exact ⟨⟨_, rfl⟩, rfl⟩
  · by_cases h0 : k < 0
    · clear hk hL
      go_enter Tryz.func46, Tryz.ntmps46
      go_wp2
      go_ret
      exact ⟨⟨_, rfl⟩, rfl⟩
    · have h2 : (L : Int) ≤ k := by omega
      clear hk hL
      go_enter Tryz.func46, Tryz.ntmps46
      go_wp2
      go_ret
      exact ⟨⟨_, rfl⟩, rfl⟩

theorem rwrite (w0 : World) (R : RLay) (k v : Int) (w : World) (h : RefIs w0 w R) (hv : (Lit.int .u64 v).wf = true) :
    Calls Tryz.prog 30 #[.pointer (some ⟨R.rb, 0, none⟩), .int .i64 k, .int .u64 v] w fun e w' => SomeInt .i64 e ∧ RefIs w0 w' R ∧ Only R.blocks w w' := by
  have c1 := h.c1
  have HH : Hid (RefIs w0 w R) := h
  have HV : Hid ((Lit.int .u64 v).wf = true) := hv
  cases hk : openB k with
  | false =>
    have H : Hid (Calls Tryz.prog 55 #[.int .i64 k] w fun e w' => e = .returned (.bool false) ∧ w' = w) := by
      have := refOpen_any k w
      rw [hk] at this
      exact this
    clear hk h hv
    go_enter Tryz.func30, Tryz.ntmps30
    go_wp2_with fail
    refine Calls.mono (Hid.out H) ?_
    rintro e w' ⟨rfl, hw⟩
    obtain rfl := hw.symm
    go_wp2
    go_ret
    exact ⟨⟨_, rfl⟩, HH.out, Only.refl _ _⟩
  | true =>
    have H : Hid (Calls Tryz.prog 55 #[.int .i64 k] w fun e w' => e = .returned (.bool true) ∧ w' = w) := by
      have := refOpen_any k w
      rw [hk] at this
      exact this
    have ho := (openB_iff k).1 hk
    obtain ⟨j, rfl⟩ : ∃ j : Nat, k = j := ⟨k.toNat, by unfold openI at ho; omega⟩
    have hj : j < 2824 := by unfold openI at ho; omega
    have hb : (j : Int) < 2824 := by omega
    obtain ⟨x, hx, _⟩ := h.now.cell j hj
    have fz := h.now.frozen j
    clear hk h hv ho
    go_enter Tryz.func30, Tryz.ntmps30
    go_wp2_with fail
    refine Calls.mono (Hid.out H) ?_
    rintro e w' ⟨rfl, hw⟩
    obtain rfl := hw.symm
    go_wp2
    go_ret
    exact ⟨⟨_, rfl⟩, HH.out.setNow j v HV.out, (Only.refl _ _).setCell (p := ⟨R.nb, j, none⟩) (by simp [RLay.blocks]) _⟩

end Go.Proofs.YtomlbifplliakaaGreat
