/- Contract of the document's Logs. -/
import Derived.Test.YtfalchacdebdpaaRcA
import Derived.Test.YtfalchacdebdpaaRefC
import Derived.Test.YtfalchacdebdpaaRcE
import Derived.BigQuiet
import Derived.Deep.QuietTactic
import Derived.Deep.AppendLies
namespace Go.Proofs.Ytfalchacdebdpaa
open Go.RowKit Go.Maps Go.ChangeMaps
set_option linter.unusedVariables false
set_option linter.unusedSimpArgs false

theorem Try.infoD : (Try.prog.info? 86).map (fun i => (i.zero, i.size, i.bytes)) = some (some (.agg #[.int .i64 0, .int .u64 0, .slice none 0 0]), 3, 40) := by kernel_rfl
/-- The document's logs as a row of its own: each its slot, its number and its changes. -/
def OwnDocs (w : World) (base : Nat) (v : Value) (xs : List RecX) : Prop := w.ownsRow base 86 3 v xs.length (recVals xs) ∧ ∀ x ∈ xs, OwnChgs w base (.slice x.a x.cs.length x.c) x.cs
def RecX.doc (x : RecX) : Rec := ⟨296 + 248 * x.at_, x.num, x.cs⟩
theorem OwnDocs.nil (w : World) (base : Nat) : OwnDocs w base (.slice none 0 0) [] := ⟨World.ownsRow_nil _ _ _ _, fun x h => (by cases h)⟩
theorem OwnDocs.later {w w' : World} {base : Nat} {v : Value} {xs : List RecX} (h : OwnDocs w base v xs) (hb : Below w.heap.size w w') : OwnDocs w' base v xs :=
  ⟨own_block h.1 fun g e => hb.block g (h.1.lt g e).2, fun x hx => (h.2 x hx).later (Nat.le_refl _) hb⟩
theorem doc_at {w : World} {base g cap : Nat} {xs : List RecX} (h : OwnDocs w base (.slice (some ⟨g, 0, none⟩) xs.length cap) xs) (k : Nat) (hk : k < xs.length) :
    w.cell? ⟨g, k * 3, none⟩ = some (.int .i64 xs[k]!.at_) ∧ w.cell? ⟨g, k * 3 + 1, none⟩ = some (.int .u64 xs[k]!.num) ∧ w.cell? ⟨g, k * 3 + 2, none⟩ = some (.slice xs[k]!.a xs[k]!.cs.length xs[k]!.c) := by
  have := recVals_at xs k hk
  rw [World.ownsRow.cellAt h.1 _ (by omega), World.ownsRow.cellAt h.1 _ (by omega), World.ownsRow.cellAt h.1 _ (by omega)]
  exact this
/-- Where the changes of a slot lie. -/
theorem slot_bad_key {g : Nat → Int} {s i m : Nat} (h0 : g (logAt s) ≠ 0) (hm : g (logAt s + 1) = (m : Int)) (hi : i < m) (hk : 2824 ≤ g (logAt s + 8 + 2 * i)) : slotBad g s := by
  refine ⟨h0, .inr fun hr => ?_⟩
  have hin := rightP_inside hr
  have hl : (chgsAt g s).length = m := by unfold chgsAt; rw [chgsOf_len, hm]; rfl
  have he : (chgsAt g s).getD i (0, 0) = chgOf (fun i => g (logAt s + i)) i := by
    unfold chgsAt
    exact chgsOf_at _ _ _ (by rw [hm]; exact hi)
  have hmem : (chgsAt g s).getD i (0, 0) ∈ chgsAt g s := getD_in (by rw [hl]; exact hi)
  have := hin _ hmem
  rw [he] at this
  unfold chgOf at this
  dsimp only at this
  rw [show logAt s + (8 + 2 * i) = logAt s + 8 + 2 * i by omega] at this
  omega
theorem slot_long {g : Nat → Int} {s : Nat} (h0 : g (logAt s) ≠ 0) (h : 120 < g (logAt s + 1)) : slotBad g s := ⟨h0, .inl h⟩
theorem slot_wrong {g : Nat → Int} {s : Nat} (h0 : g (logAt s) ≠ 0) (h : rightP (chgsAt g s) ≠ 0) : slotBad g s := ⟨h0, .inr h⟩
theorem slot_good {g : Nat → Int} {s : Nat} (h1 : ¬ 120 < g (logAt s + 1)) (h2 : rightP (chgsAt g s) = 0) : ¬ slotBad g s := fun h => h.2.elim h1 fun e => e h2
theorem chgsOf_succ (f : Nat → Int) (k : Nat) : chgsOf f (k + 1) = chgsOf f k ++ [chgOf f k] := by simp [chgsOf, List.range_succ]
/-- The log that is read now: its box. -/
structure BoxD (w : World) (X : Nat) (s num : Int) (v : Value) (cs : List Chg) : Prop where
  obj : w.heap[X]? = some (.cells #[.int .i64 s, .int .u64 num, v] 86 (0, 0))
  row : OwnChgs w (X + 1) v cs
theorem BoxD.later {w w' : World} {X : Nat} {s num : Int} {v : Value} {cs : List Chg} (h : BoxD w X s num v cs) (hb : Below w.heap.size w w') : BoxD w' X s num v cs :=
  ⟨(hb.block X (Array.getElem?_eq_some_iff.1 h.obj).1).trans h.obj, h.row.later (Nat.le_refl _) hb⟩
theorem BoxD.cells {w : World} {X : Nat} {s num : Int} {v : Value} {cs : List Chg} (h : BoxD w X s num v cs) : w.cell? ⟨X, 0, none⟩ = some (.int .i64 s) ∧ w.cell? ⟨X, 1, none⟩ = some (.int .u64 num) ∧ w.cell? ⟨X, 2, none⟩ = some v ∧ w.frozen? ⟨X, 2, none⟩ = false :=
  ⟨by rw [cell_of_row w X 0 _ _ _ h.obj]; rfl, by rw [cell_of_row w X 1 _ _ _ h.obj]; rfl, by rw [cell_of_row w X 2 _ _ _ h.obj]; rfl, frozen_of_row w X 2 _ _ h.obj⟩

theorem two_cellsC {w : World} {B : Nat} {x y : Value} {t : TypeId} (hB : w.heap.size = B) : ∀ (j : Nat) (r : Value), [x, y][j]? = some r → (w.alloc (.cells #[x, y] t)).cell? ((⟨B, 0, none⟩ : Addr).add j) = some r := by
  intro j r hj
  subst hB
  rw [add_none]
  have := heap_alloc_new w (.cells #[x, y] t)
  rw [cell_of_row _ _ _ _ _ _ this]
  simpa using hj
/-- One more change in the box's row. -/
theorem BoxD.push {w w2 : World} {X : Nat} {s num K Z : Int} {a va : Option Addr} {q c vc : Nat} {f : Nat → Int} {o : Obj} (h : BoxD w X s num (.slice a q c) (chgsOf f q)) (hK : chgOf f q = (K, Z)) (ho : w2.ownsRow (X + 1) 40 2 (.slice va (q + 1) vc) (q + 1) (chgVals (chgsOf f q) ++ [.int .i64 K, .int .u64 Z])) (hg : ((w.alloc o).drew).grownBy w2 (Value.slice a q c).ownBlock) :
    (w2.cell? ⟨X, 2, none⟩ = some (.slice a q c) ∧ w2.frozen? ⟨X, 2, none⟩ = false) ∧ BoxD (w2.setCell ⟨X, 2, none⟩ (.slice va (q + 1) vc)) X s num (.slice va (q + 1) vc) (chgsOf f (q + 1)) := by
  have hXl : X < w.heap.size := (Array.getElem?_eq_some_iff.1 h.obj).1
  have hne : some X ≠ (Value.slice a q c).ownBlock := fun e => by have := (World.ownsRow.lt h.row X e.symm).1; omega
  have h2 : w2.heap[X]? = some (.cells #[.int .i64 s, .int .u64 num, .slice a q c] 86 (0, 0)) := (hg.block X (by show X < (w.alloc o).heap.size; simp; omega) hne).trans ((Below.heap_alloc _ _ _ hXl).trans h.obj)
  refine ⟨⟨by rw [cell_of_row w2 X 2 _ _ _ h2]; rfl, frozen_of_row w2 X 2 _ _ h2⟩, heap_setCell_same w2 X 2 _ _ _ h2, ?_⟩
  show World.ownsRow _ _ _ _ _ _ _
  rw [chgsOf_succ, hK, chgVals_append, show (chgsOf f q ++ [(K, Z)]).length = q + 1 by simp [chgsOf]]
  exact own_block ho fun g e => Below.heap_setCell _ _ _ _ (show g ≠ X by have := (World.ownsRow.lt ho g e).1; omega)

theorem docs_news {w : World} {base g cap : Nat} {xs : List RecX} (h : OwnDocs w base (.slice (some ⟨g, 0, none⟩) xs.length cap) xs) (j : Nat) (u : Value) (hj : (recVals xs)[j]? = some u) : w.cell? ⟨g, j, none⟩ = some u := by
  have hl : j < xs.length * 3 := by
    have := (List.getElem?_eq_some_iff.1 hj).1
    rwa [recVals_len] at this
  rw [World.ownsRow.cellAt h.1 j (by omega)]
  exact hj
theorem docs_take {w : World} {base g cap k : Nat} {xs : List RecX} (h : OwnDocs w base (.slice (some ⟨g, 0, none⟩) xs.length cap) xs) (hk : k ≤ xs.length) : ∀ (j : Nat) (u : Value), (recVals (xs.take k))[j]? = some u → w.cell? ((⟨g, 0, none⟩ : Addr).add j) = some u := fun j u hj => by
  rw [add_none, Nat.zero_add]
  refine docs_news h j u ?_
  have e : recVals xs = recVals (xs.take k) ++ recVals (xs.drop k) := by rw [← recVals_append, List.take_append_drop]
  rw [e, List.getElem?_append_left (List.getElem?_eq_some_iff.1 hj).1]
  exact hj
theorem docs_drop {w : World} {base g cap k : Nat} {xs : List RecX} (h : OwnDocs w base (.slice (some ⟨g, 0, none⟩) xs.length cap) xs) (hk : k ≤ xs.length) : ∀ (j : Nat) (u : Value), (recVals (xs.drop k))[j]? = some u → w.cell? ((⟨g, k * 3, none⟩ : Addr).add j) = some u := fun j u hj => by
  rw [add_none]
  refine docs_news h _ u ?_
  have e : recVals xs = recVals (xs.take k) ++ recVals (xs.drop k) := by rw [← recVals_append, List.take_append_drop]
  have hl : (recVals (xs.take k)).length = k * 3 := by rw [recVals_len, List.length_take, Nat.min_eq_left hk]
  rw [e, List.getElem?_append_right (by omega), hl, Nat.add_sub_cancel_left]
  exact hj
theorem docs_drop' {w : World} {base g cap k : Nat} {xs : List RecX} (h : OwnDocs w base (.slice (some ⟨g, 0, none⟩) xs.length cap) xs) (hk : k ≤ xs.length) (hc : xs.length ≤ cap) : ∀ (j : Nat) (u : Value), (recVals (xs.drop k))[j]? = some u → w.cell? ((⟨g, if cap = k then 0 else k * 3, none⟩ : Addr).add j) = some u := fun j u hj => by
  by_cases e : cap = k
  · have e2 : xs.drop k = [] := List.drop_eq_nil_iff.2 (by omega)
    rw [e2] at hj
    cases hj
  · rw [if_neg e]; exact docs_drop h hk j u hj
theorem recVals_cells (xs : List RecX) : ∀ u ∈ recVals xs, u.oneCell' = true := by
  intro u hu
  unfold recVals at hu
  obtain ⟨x, _, hx⟩ := List.mem_flatMap.1 hu
  simp [encR] at hx
  rcases hx with rfl | rfl | rfl <;> rfl
theorem OwnDocs.of_block {w w' : World} {base : Nat} {v : Value} {xs : List RecX} (h : OwnDocs w base v xs) (hb : ∀ z, z < w.heap.size → w'.heap[z]? = w.heap[z]?) : OwnDocs w' base v xs :=
  ⟨own_block h.1 fun g e => hb g (h.1.lt g e).2, fun x hx => own_block (h.2 x hx) fun g e => hb g (World.ownsRow.lt (h.2 x hx) g e).2⟩
theorem row_down {w : World} {b b' : Nat} {e : TypeId} {s n : Nat} {v : Value} {xs : List Value} (h : w.ownsRow b e s v n xs) (hb : b' ≤ b) : w.ownsRow b' e s v n xs := by
  refine ⟨h.1, h.2.imp id ?_⟩
  rintro ⟨g, cap, cur, h1, h2, h3⟩
  exact ⟨g, cap, cur, h1, by omega, h3⟩
/-- The new row of logs. -/
theorem docs_put {w W w3 : World} {k : Nat} {v3 : Value} {xs : List RecX} {x : RecX} {vc : Nat} {a : Option Addr} (h : OwnDocs W w.heap.size (.slice a xs.length vc) xs) (hx : OwnChgs W w.heap.size (.slice x.a x.cs.length x.c) x.cs) (hw : w.heap.size ≤ W.heap.size) (hk : k ≤ xs.length) (hr : w3.ownsRow W.heap.size 86 3 v3 (k + 1 + (xs.length - k)) (recVals (xs.take k) ++ encR x ++ recVals (xs.drop k))) (hb : ∀ z, z < W.heap.size → w3.heap[z]? = W.heap[z]?) :
    OwnDocs w3 w.heap.size v3 (xs.take k ++ x :: xs.drop k) := by
  refine ⟨?_, fun y hy => ?_⟩
  · have e1 : recVals (xs.take k ++ x :: xs.drop k) = recVals (xs.take k) ++ encR x ++ recVals (xs.drop k) := by
      rw [recVals_append, List.append_assoc]; rfl
    have e2 : (xs.take k ++ x :: xs.drop k).length = k + 1 + (xs.length - k) := by simp; omega
    rw [e1, e2]
    exact row_down hr hw
  · rcases List.mem_append.1 hy with q | q
    · have := h.2 y (List.mem_of_mem_take q)
      exact own_block this fun g e => hb g (World.ownsRow.lt this g e).2
    · rcases List.mem_cons.1 q with rfl | q
      · exact own_block hx fun g e => hb g (World.ownsRow.lt hx g e).2
      · have := h.2 y (List.mem_of_mem_drop q)
        exact own_block this fun g e => hb g (World.ownsRow.lt this g e).2
theorem logs_put {g : Nat → Int} {s k : Nat} {xs : List RecX} {x : RecX} (h : LogsTo g s (xs.map RecX.doc)) (h0 : g (logAt s) ≠ 0) (hb : ¬ slotBad g s) (hx : x.doc = ⟨logAt s, g (logAt s), chgsAt g s⟩) (hk : k ≤ xs.length) (ha : ∀ i, i < k → xs[i]!.num < g (logAt s)) (hbn : ∀ i, k ≤ i → i < xs.length → g (logAt s) < xs[i]!.num) : LogsTo g (s + 1) ((xs.take k ++ x :: xs.drop k).map RecX.doc) := by
  rw [List.map_append, List.map_cons, hx]
  refine h.put h0 hb (by rw [← List.map_append, List.take_append_drop]) (fun r hr => ?_) fun r hr => ?_
  · obtain ⟨y, hy, rfl⟩ := List.mem_map.1 hr
    obtain ⟨i, hi, e⟩ := List.mem_take_iff_getElem.1 hy
    have := ha i (by omega)
    rw [getElem!_pos xs i (by omega), e] at this
    exact this
  · obtain ⟨y, hy, rfl⟩ := List.mem_map.1 hr
    obtain ⟨i, hi, e⟩ := List.mem_drop_iff_getElem.1 hy
    have := hbn (k + i) (by omega) (by omega)
    rw [getElem!_pos xs (k + i) (by omega), e] at this
    exact this
/-- What the document's Logs answers. -/
def DocSpec (w w' : World) (e : Ending) (n : Nat) (g : Nat → Int) : Prop :=
  ((¬ ∃ rs, GoodLogs n g rs) ∧ e = .returned (.tuple #[.slice none 0 0, .bool false])) ∨
  ∃ v xs, e = .returned (.tuple #[v, .bool true]) ∧ GoodLogs n g (xs.map RecX.doc) ∧ (∀ x ∈ xs, 0 ≤ x.at_ ∧ x.at_ < 4) ∧ OwnDocs w' w.heap.size v xs
theorem doc_bad (n : Nat) (a : Option Addr) (c : Nat) (g : Nat → Int) (w : World) (h : UAt w a n g) (hr : rightB n g = false) :
    Calls Try.prog 43 #[.slice a n c] w fun e w' => DocSpec w w' e n g ∧ Below w.heap.size w w' := by
  have HR : Hid (Calls Try.prog 62 #[.slice a n c] w fun e w' => e = .returned (.bool false) ∧ w' = w) := by
    have := refRight_any a n c g w h
    rw [hr] at this
    exact this
  go_enter Try.func43, Try.ntmps43
  go_wp2_with fail
  refine Calls.mono (Hid.out HR) ?_
  rintro e w' ⟨rfl, hw⟩
  obtain rfl := hw.symm
  go_wp2
  go_ret2
  exact ⟨.inl ⟨fun ⟨rs, hg⟩ => (by rw [hg.1] at hr; cases hr), rfl⟩, Below.refl _ _⟩

set_option maxHeartbeats 8000000 in
set_option maxRecDepth 100000 in
theorem doc_logs (lb lo c : Nat) (g : Nat → Int) (w : World) (hlb : lb < w.heap.size) (hg : ∀ i, i < 2824 → 0 ≤ g i ∧ g i ≤ 18446744073709551615) (hcl : ∀ i, i < 2824 → w.cell? ⟨lb, lo + i, none⟩ = some (.int .u64 (g i))) (hr : rightB 2824 g = true) (Ln : Nat) (hLn : 2824 = Ln) :
    Calls Try.prog 43 #[.slice (some ⟨lb, lo, none⟩) Ln c] w fun e w' => DocSpec w w' e 2824 g ∧ Below w.heap.size w w' := by
  have HR : Hid (Calls Try.prog 62 #[.slice (some ⟨lb, lo, none⟩) Ln c] w fun e w' => e = .returned (.bool true) ∧ w' = w) := by
    have := refRight_any (some ⟨lb, lo, none⟩) 2824 c g w (.inr ⟨lb, lo, rfl, hlb, hcl⟩)
    rw [hr, hLn] at this
    exact this
  have HRB : Hid (rightB 2824 g = true) := hr
  have HC : Hid (∀ w1, Below w.heap.size w w1 → ∀ i, i < 2824 → w1.cell? ⟨lb, lo + i, none⟩ = some (.int .u64 (g i))) := fun w1 hb i hi => (hb.cell (p := ⟨lb, lo + i, none⟩) hlb).trans (hcl i hi)
  have HG : Hid (∀ i, i < 2824 → 0 ≤ g i ∧ g i ≤ 18446744073709551615) := hg
  have hL : (2824 : Int) ≤ (Ln : Int) := by omega
  have HLN : Hid (2824 = Ln) := hLn
  obtain ⟨i1, hi1, hz10, hz11, hz12⟩ := info_parts Try.info40
  obtain ⟨i2, hi2, hz20, hz21, hz22⟩ := info_parts Try.infoD
  clear hr hcl hg hLn hlb
  go_enter Try.func43, Try.ntmps43
  go_wp2_with fail
  refine Calls.mono (Hid.out HR) ?_
  rintro e w' ⟨rfl, hw⟩
  obtain rfl := hw.symm
  clear HR
  go_wp2
  go_loopw [4, 5, 6, 7, 8, 9, 10] (fun v sv _ _ _ _ _ wr => ∃ (s : Nat) (xs : List RecX), s ≤ 4 ∧ sv = .int .i64 s ∧ Hid (OwnDocs wr w.heap.size v xs ∧ LogsTo g s (xs.map RecX.doc) ∧ (∀ x ∈ xs, 0 ≤ x.at_ ∧ x.at_ < 4) ∧ xs.length ≤ s ∧ Below w.heap.size w wr)) (fun _ sv _ _ _ _ _ _ => 4 - (intOf sv).toNat)
  case atStart => exact ⟨0, [], by omega, rfl, OwnDocs.nil _ _, logsTo_zero g, fun x h => (by cases h), Nat.le_refl _, Below.refl _ _⟩
  case round =>
    obtain ⟨s, xs, hs, rfl, HD⟩ := hrel
    by_cases hs4 : s < 4
    · have hsi : (s : Int) < 4 := by omega
      obtain ⟨F, hF⟩ : ∃ F : Nat, logAt s = F := ⟨_, rfl⟩
      have HF : Hid (logAt s = F) := hF
      have hFe : F = 296 + 248 * s := by rw [← hF]; rfl
      have hFi : 296 + 248 * (s : Int) = (F : Int) := by omega
      have hFb : (F : Int) < 1041 := by omega
      have hF0 : F < 1041 := by omega
      obtain ⟨va, vc, rfl, _⟩ := ownsRow_formK HD.out.1.1
      have hc0 := HC.out _ HD.out.2.2.2.2 F (by omega)
      have hc1 := HC.out _ HD.out.2.2.2.2 (F + 1) (by omega)
      have hg0 := HG.out F (by omega)
      have hg1 := HG.out (F + 1) (by omega)
      obtain ⟨num, hnum⟩ : ∃ x, g F = x := ⟨_, rfl⟩
      obtain ⟨cnt, hcnt⟩ : ∃ x, g (F + 1) = x := ⟨_, rfl⟩
      have HNUM : Hid (g F = num) := hnum
      have HCNT : Hid (g (F + 1) = cnt) := hcnt
      rw [hnum] at hc0 hg0
      rw [hcnt] at hc1 hg1
      clear hnum hcnt hF hFe
      by_cases hz : num = 0
      · subst hz
        go_wp2
        go_roundw
        case rel => exact ⟨s + 1, xs, by omega, by go_num, HD.out.1, HD.out.2.1.skip (by rw [HF.out]; exact HNUM.out), HD.out.2.2.1, by have := HD.out.2.2.2.1; omega, HD.out.2.2.2.2⟩
        case measure => simp [intOf]; omega
      · have hz1 : (num == 0) = false := by simpa using hz
        have HZ : Hid (num ≠ 0) := hz
        have hN0 : Hid (g (logAt s) ≠ 0) := by rw [HF.out, HNUM.out]; exact hz
        by_cases hlong : 120 < cnt
        · have HBAD : Hid (¬ ∃ rs, GoodLogs 2824 g rs) := no_slot hs4 (slot_long hN0.out (by rw [HF.out, HCNT.out]; exact hlong))
          clear hz
          go_wp2
          go_ret2
          exact ⟨.inl ⟨HBAD.out, rfl⟩, HD.out.2.2.2.2⟩
        · have hshort : cnt ≤ 120 := by omega
          obtain ⟨m, hm⟩ : ∃ m : Nat, cnt = m := ⟨cnt.toNat, by omega⟩
          subst hm
          have hm120 : m ≤ 120 := by omega
          have hwm : IntKind.i64.wrap (m : Int) = (m : Int) := by rw [IntKind.wrap_i64]; omega
          clear hz hlong
          go_wp2_with fail
          obtain ⟨X, hX⟩ : ∃ X, wr.heap.size = X := ⟨_, rfl⟩
          have HX : Hid (wr.heap.size = X) := hX
          have HSX : Hid (w.heap.size ≤ X) := by rw [← hX]; exact HD.out.2.2.2.2.size
          have hbox : BoxD (wr.alloc (.cells #[.int .i64 s, .int .u64 num, .slice none 0 0] 86)) X s num (.slice none 0 0) (chgsOf (fun i => g (F + i)) 0) := by
            rw [← hX]
            exact ⟨heap_alloc_new _ _, World.ownsRow_nil _ _ _ _⟩
          have HBOX : Hid _ := hbox
          have HB0 : Hid (Below X wr (wr.alloc (.cells #[.int .i64 s, .int .u64 num, .slice none 0 0] 86))) := by rw [← hX]; exact (Below.refl _ _).alloc (Nat.le_refl _) _
          rw [hX]
          clear hX hbox
          go_loopw [8, 9] (fun i _ wq => ∃ (q : Nat) (v : Value), q ≤ m ∧ i = .int .i64 q ∧ Hid (BoxD wq X s num v (chgsOf (fun i => g (F + i)) q) ∧ Below X wr wq)) (fun i _ _ => m - (intOf i).toNat)
          case atStart => exact ⟨0, _, Nat.zero_le _, rfl, HBOX.out, HB0.out⟩
          case round =>
            obtain ⟨q, v, hq, rfl, HI⟩ := hrel
            have HBW : Hid (Below w.heap.size w wr) := HD.out.2.2.2.2.trans (HI.out.2.mono HSX.out)
            have y1 := HC.out wr HBW.out (F + 1) (by omega)
            rw [HCNT.out] at y1
            obtain ⟨va0, vc0, rfl, _⟩ := ownsRow_formK HI.out.1.row
            rw [chgsOf_len] at HI
            by_cases hqm : q < m
            · have hqi : (q : Int) < (m : Int) := by omega
              obtain ⟨P, hP⟩ : ∃ P : Nat, F + 8 + 2 * q = P := ⟨_, rfl⟩
              have hPi : (F : Int) + 8 + 2 * (q : Int) = (P : Int) := by omega
              have hPi2 : (F : Int) + 9 + 2 * (q : Int) = ((P : Int) + 1) := by omega
              have hPb : (P : Int) < 2823 := by omega
              have hPn : P < 2823 := by omega
              have y2 := HC.out wr HBW.out P (by omega)
              have y3 := HC.out wr HBW.out (P + 1) (by omega)
              have hk2 := HG.out P (by omega)
              have HZB := HG.out (P + 1) (by omega)
              have HBK : Hid (2824 ≤ g P → ¬ ∃ rs, GoodLogs 2824 g rs) := fun hk => no_slot hs4 (slot_bad_key hN0.out (by rw [HF.out]; exact HCNT.out) hqm (by rw [HF.out, hP]; exact hk))
              have HCO : Hid (g P < 2824 → chgOf (fun i => g (F + i)) q = (g P, g (P + 1))) := fun hk => by
                unfold chgOf
                dsimp only
                rw [show F + (8 + 2 * q) = P by omega, show F + (8 + 2 * q + 1) = P + 1 by omega, Int.min_eq_left (by omega)]
              obtain ⟨K, hK⟩ : ∃ x, g P = x := ⟨_, rfl⟩
              obtain ⟨Z, hZ⟩ : ∃ x, g (P + 1) = x := ⟨_, rfl⟩
              rw [hK] at y2 hk2 HBK HCO
              rw [hZ] at y3 HZB HCO
              clear hP hK hZ
              by_cases hbig : 2824 ≤ K
              · have hbig2 : K ≥ 2824 := hbig
                go_wp2
                go_ret2
                exact ⟨.inl ⟨HBK.out hbig, rfl⟩, HBW.out⟩
              · have hsm : K < 2824 := by omega
                have hwK : IntKind.i64.wrap K = K := by rw [IntKind.wrap_i64]; omega
                obtain ⟨b0, b1, b2, bf⟩ := HI.out.1.cells
                have HKO : Hid (chgOf (fun i => g (F + i)) q = (K, Z)) := HCO.out hsm
                have HROW : Hid (wr.ownsRow (X + 1) 40 2 (.slice va0 q vc0) q (chgVals (chgsOf (fun i => g (F + i)) q))) := by
                  have := HI.out.1.row
                  unfold OwnChgs at this
                  rw [chgsOf_len] at this
                  exact this
                have HXL : Hid (X + 1 ≤ wr.heap.size) := (Array.getElem?_eq_some_iff.1 HI.out.1.obj).1
                clear hbig HBK HCO
                have hw9 : IntKind.i64.wrap ((F : Int) + 9) = (F : Int) + 9 := by rw [IntKind.wrap_i64]; omega
                have hw2q : IntKind.i64.wrap (2 * (q : Int)) = 2 * (q : Int) := by rw [IntKind.wrap_i64]; omega
                have hwP : IntKind.i64.wrap ((P : Int) + 1) = (P : Int) + 1 := by rw [IntKind.wrap_i64]; omega
                have hPL : (P : Int) + 1 < (Ln : Int) := by omega
                have hP0 : (0 : Int) ≤ (P : Int) + 1 := by omega
                have ba2 : (wr.alloc (.cells #[.int .i64 K, .int .u64 Z] 40)).cell? ⟨X, 2, none⟩ = some (.slice va0 q vc0) := (((Below.refl _ wr).alloc (Nat.le_refl _) _).cell (p := ⟨X, 2, none⟩) (by have := HXL.out; show X < _; omega)).trans b2
                go_wp2_with fail
                go_region_law ((refine step_append_own rfl _ _ 23 rfl (X + 1) 40 i1 (.agg #[.int .i64 0, .int .u64 0]) 2 16 Try.underlying23 hi1 hz10 hz11 hz12 rfl (by decide) (.slice va0 q vc0) q _ rfl (World.ownsRow.drew (World.ownsRow.alloc HROW.out _)) ⟨wr.heap.size, 0, none⟩ 1 1 [.int .i64 K, .int .u64 Z] rfl rfl (fun j u hj => two_cellsC rfl j u hj) (by intro u hu; simp at hu; rcases hu with rfl | rfl <;> rfl) (by unfold maxLen; omega) (by omega) (by have := HXL.out; simp; omega) ?_; intro v2 w2 ho2 hg2 _; obtain ⟨va2, vc2, rfl, _⟩ := ownsRow_formK ho2; obtain ⟨⟨e2, f2⟩, hpush⟩ := HI.out.1.push HKO.out ho2 hg2; have HPU : Hid _ := hpush; have HGR : Hid _ := hg2; clear ho2 hg2 hpush b0 b1 b2 bf ba2))
                all_goals
                  have HB2 : Hid (Below X wr w2) := (((Below.refl X wr).alloc (by have := HXL.out; omega) _).drew).grown HGR.out (by have := HXL.out; simp; omega) (fun j h => by have := (World.ownsRow.lt HROW.out j h).1; omega)
                  go_wp2
                  go_roundw
                  case rel => exact ⟨q + 1, _, by omega, by go_num, HPU.out, (HI.out.2.trans HB2.out).setCell (p := ⟨X, 2, none⟩) (Nat.le_refl _) _⟩
                  case measure => simp [intOf]; omega
            · have hge2 : ¬ ((q : Int) < (m : Int)) := by omega
              have hqe : q = m := by omega
              subst hqe
              have HCS : Hid (chgsAt g s = chgsOf (fun i => g (F + i)) q) := by
                show chgsAt g s = _
                unfold chgsAt
                rw [HF.out, HCNT.out]
                rfl
              obtain ⟨cs, hcs⟩ : ∃ x, chgsOf (fun i => g (F + i)) q = x := ⟨_, rfl⟩
              have HCL : Hid (cs.length = q) := by rw [← hcs]; exact chgsOf_len _ _
              rw [hcs] at HI HCS
              obtain ⟨b0, b1, b2, bf⟩ := HI.out.1.cells
              have HRI : Hid (Calls Try.prog 12 #[.slice va0 q vc0] wr fun e w' => e = .returned (.int .i64 (rightP cs)) ∧ Below wr.heap.size wr w') := by
                obtain ⟨a', c', e1, _, hat, _⟩ := OwnChgs.at HI.out.1.row
                rw [HCL.out] at e1
                cases e1
                have := refRight7_any va0 vc0 cs wr hat
                rw [HCL.out] at this
                exact this.mono fun e w' ⟨h1, h2⟩ => ⟨h1, h2 _⟩
              clear hcs bf
              obtain ⟨rt, hrt⟩ : ∃ x, rightP cs = x := ⟨_, rfl⟩
              rw [hrt] at HRI
              by_cases hr0 : rt = 0
              · subst hr0
                have HOKS : Hid (¬ slotBad g s) := slot_good (by rw [HF.out, HCNT.out]; omega) (by rw [HCS.out]; exact hrt)
                obtain ⟨nx, hnx⟩ : ∃ x, xs.length = x := ⟨_, rfl⟩
                have HNX : Hid (xs.length = nx) := hnx
                have hnx4 : nx ≤ 4 := by have := HD.out.2.2.2.1; omega
                rw [hnx]
                clear hrt hnx
                go_wp2_with fail
                refine Calls.mono (Hid.out HRI) ?_
                rintro e w5 ⟨rfl, hb5⟩
                have HBX : Hid (BoxD w5 X s num (.slice va0 q vc0) cs) := HI.out.1.later hb5
                have HB5 : Hid (Below X wr w5) := hb5.mono (by have := (Array.getElem?_eq_some_iff.1 HI.out.1.obj).1; omega)
                clear hb5 HRI b0 b1 b2 y1
                have HB05 : Hid (Below X _ w5) := HI.out.2.trans HB5.out
                have HOD5 : Hid (OwnDocs w5 w.heap.size (.slice va nx vc) xs) := by
                  have h1 := HD.out.1
                  rw [HNX.out] at h1
                  exact h1.later (by rw [HX.out]; exact HB05.out)
                have HXW : Hid (X < w5.heap.size ∧ w.heap.size ≤ X) := ⟨(Array.getElem?_eq_some_iff.1 HBX.out.obj).1, HSX.out⟩
                have HW5 : Hid (Below w.heap.size w w5) := HD.out.2.2.2.2.trans (HB05.out.mono HSX.out)
                go_wp2
                go_loopw [10] (fun kk wk => ∃ k : Nat, k ≤ nx ∧ kk = .int .i64 k ∧ Hid (∀ i, k ≤ i → i < nx → num < xs[i]!.num) ∧ Hid (Below w5.heap.size w5 wk)) (fun kk _ => (intOf kk).toNat)
                case atStart => exact ⟨nx, Nat.le_refl _, rfl, fun i h1 h2 => absurd h1 (by omega), Below.refl _ _⟩
                case round =>
                  obtain ⟨k, hk, rfl, HK, HBK⟩ := hrel
                  have HBX2 : Hid (BoxD wr X s num (.slice va0 q vc0) cs) := HBX.out.later HBK.out
                  have HOD2 : Hid (OwnDocs wr w.heap.size (.slice va nx vc) xs) := HOD5.out.later HBK.out
                  have HW2 : Hid (Below w.heap.size w wr) := HW5.out.trans (HBK.out.mono HW5.out.size)
                  obtain ⟨b0, b1, b2, _⟩ := HBX2.out.cells
                  rcases k with _ | p
                  · skip
                    go_wp2
                    go_quiet (fail)
                    obtain ⟨n1, rfl⟩ : ∃ n, n = nq := ⟨_, rfl⟩
                    go_wp2
                    go_quiet (fail)
                    obtain ⟨_, hrow0⟩ := HOD2.out.1
                    rcases hrow0 with ⟨e0, hn0⟩ | ⟨gx, cap_, cur_, e0, _, _, hle, _⟩
                    · cases e0
                      obtain ⟨W, hW⟩ : ∃ W, (wr.drewN n1).drewN nq = W := ⟨_, rfl⟩
                      have HBX3 : Hid (BoxD W X s num (.slice va0 q vc0) cs) := by rw [← hW]; exact HBX2.out.later (below_drewN (below_drewN (Below.refl _ _) _) _)
                      have HW3 : Hid (Below w.heap.size w W) := by rw [← hW]; exact below_drewN (below_drewN HW2.out _) _
                      have HXL3 : Hid (X < W.heap.size ∧ w.heap.size ≤ X) := ⟨(Array.getElem?_eq_some_iff.1 HBX3.out.obj).1, HSX.out⟩
                      rw [hW]
                      clear hW
                      obtain ⟨c0, c1, c2, _⟩ := HBX3.out.cells
                      have HXS : Hid (xs = []) := List.length_eq_zero_iff.1 HNX.out
                      clear b0 b1 b2
                      go_wp2_with fail
                      go_region_law ((first
                        | (refine step_append_none rfl (.const (.slice none 0 0)) (.tmp 110) 82 rfl 86 i2 Try.underlying82 hi2 none 0 0 (Nat.le_refl 0) rfl (by simp [Act.eval, Act.put]) ?_)
                        | (refine step_append_own rfl (.tmp 111) (.tmp 113) 82 rfl W.heap.size 86 i2 (.agg #[.int .i64 0, .int .u64 0, .slice none 0 0]) 3 40 Try.underlying82 hi2 hz20 hz21 hz22 rfl (by decide) (.slice none 0 0) 0 [] rfl (World.ownsRow_nil _ _ _ _) ⟨W.heap.size, 0, none⟩ 1 1 [.int .i64 s, .int .u64 num, .slice va0 q vc0] rfl rfl (World.news_of_block (heap_alloc_new W _)) (by intro u hu; simp at hu; rcases hu with rfl | rfl | rfl <;> rfl) (by unfold maxLen; omega) (by omega) (by show W.heap.size ≤ (W.alloc _).heap.size; simp) ?_
                           intro v2 w2 ho2 hg2 _
                           simp only [Nat.zero_add, List.nil_append] at ho2
                           obtain ⟨va2, vc2, rfl, _⟩ := ownsRow_formK ho2
                           have k2 : ∀ z, z < W.heap.size → w2.heap[z]? = W.heap[z]? := fun z hz => (hg2.block z (show z < (W.alloc _).heap.size by simp; omega) (by simp [Value.ownBlock])).trans (Below.heap_alloc _ _ _ hz)
                           have h1c : 1 ≤ vc2 := by
                             obtain ⟨_, h1⟩ := ho2
                             rcases h1 with ⟨_, h2⟩ | ⟨_, _, _, e, _, _, h4, _⟩
                             · omega
                             · cases e; omega)
                        | (refine step_append_none rfl (.tmp 114) (.tmp 117) 82 rfl 86 i2 Try.underlying82 hi2 va2 1 vc2 h1c rfl (by simp [Act.eval, Act.put]) ?_
                           have s3 : W.heap.size ≤ w2.heap.size := (by have h2 := hg2.size; have h3 : (W.alloc (.cells #[.int .i64 s, .int .u64 num, .slice va0 q vc0] 86)).heap.size = W.heap.size + 1 := (by simp); have h4 : (W.alloc (.cells #[.int .i64 s, .int .u64 num, .slice va0 q vc0] 86)).heap.size ≤ w2.heap.size := h2; omega)
                           have t3 : w2.os = W.os ∧ w2.tape = W.tape ∧ w2.output = W.output := ⟨hg2.os, hg2.tape, hg2.output⟩)))
                      all_goals
                        have HRES : Hid (OwnDocs w2 w.heap.size (.slice va2 1 vc2) [((s : Int), num, va0, vc0, cs)]) := by
                          have hq := HCL.out
                          have hrow := HBX3.out.row
                          have e : encR ((s : Int), num, va0, vc0, cs) = [.int .i64 s, .int .u64 num, .slice va0 q vc0] := by
                            show [Value.int .i64 s, .int .u64 num, .slice va0 cs.length vc0] = _
                            rw [hq]
                          have e2 : recVals [((s : Int), num, va0, vc0, cs)] = encR ((s : Int), num, va0, vc0, cs) := by simp [recVals]
                          have hrr : w2.ownsRow W.heap.size 86 3 (.slice va2 1 vc2) 1 (recVals [((s : Int), num, va0, vc0, cs)]) := by
                            rw [e2, e]
                            exact ho2
                          refine ⟨row_down hrr HW3.out.size, fun x hx => ?_⟩
                          rcases List.mem_singleton.1 hx with rfl
                          have hr2 : OwnChgs W w.heap.size (.slice va0 cs.length vc0) cs := by
                            rw [hq]
                            exact row_down hrow (by have := HXL3.out; omega)
                          exact own_block hr2 fun g e => k2 g (World.ownsRow.lt hr2 g e).2
                        have HLT : Hid (LogsTo g (s + 1) (([((s : Int), num, va0, vc0, cs)] : List RecX).map RecX.doc)) := by
                          have h := logs_put (x := ((s : Int), num, va0, vc0, cs)) (k := 0) HD.out.2.1 hN0.out HOKS.out (by
                            show (⟨296 + 248 * (s : Int), num, cs⟩ : Rec) = _
                            rw [HF.out, HNUM.out, HCS.out]
                            have : (296 + 248 * (s : Int)) = ((F : Nat) : Int) := by have := HF.out; unfold logAt at this; omega
                            rw [this]) (Nat.zero_le _) (fun i hi => absurd hi (Nat.not_lt_zero i)) (fun i _ hi => by rw [HXS.out] at hi; simp at hi)
                          rw [HXS.out] at h
                          exact h
                        have HBF : Hid (Below w.heap.size w w2) := HW3.out.trans ⟨t3.1, t3.2.1, t3.2.2, s3, fun z hz => k2 z (Nat.lt_of_lt_of_le hz HW3.out.size)⟩
                        clear ho2 hg2 k2 s3 t3 h1c
                        go_wp2
                        go_roundw
                        case rel => exact ⟨s + 1, [((s : Int), num, va0, vc0, cs)], by omega, by go_num, HRES.out, HLT.out, fun x hx => (by rcases List.mem_singleton.1 hx with rfl; show 0 ≤ (s : Int) ∧ (s : Int) < 4; omega), by simp, HBF.out⟩
                        case measure => simp [intOf]; omega
                    · have hva : va = some ⟨gx, 0, none⟩ := by injection e0
                      have hle2 : nx ≤ vc := by
                        have h1 : nx = xs.length := by injection e0
                        have h2 : vc = cap_ := by injection e0
                        omega
                      subst hva
                      clear e0
                      have hcap : nx ≤ vc := hle2
                      have hcapi : (nx : Int) ≤ (vc : Int) := by omega
                      have hvc0 : (0 : Int) ≤ (vc : Int) := by omega
                      have hnx0 : (0 : Int) ≤ (nx : Int) := by omega
                      obtain ⟨W, hW⟩ : ∃ W, (wr.drewN n1).drewN nq = W := ⟨_, rfl⟩
                      have HBX3 : Hid (BoxD W X s num (.slice va0 q vc0) cs) := by rw [← hW]; exact HBX2.out.later (below_drewN (below_drewN (Below.refl _ _) _) _)
                      have HOD3 : Hid (OwnDocs W w.heap.size (.slice (some ⟨gx, 0, none⟩) xs.length vc) xs) := by rw [← hW, HNX.out]; exact HOD2.out.later (below_drewN (below_drewN (Below.refl _ _) _) _)
                      have HW3 : Hid (Below w.heap.size w W) := by rw [← hW]; exact below_drewN (below_drewN HW2.out _) _
                      have HXL3 : Hid (X < W.heap.size ∧ w.heap.size ≤ X) := ⟨(Array.getElem?_eq_some_iff.1 HBX3.out.obj).1, HSX.out⟩
                      rw [hW]
                      clear hW
                      obtain ⟨c0, c1, c2, _⟩ := HBX3.out.cells
                      have HTK : Hid ((recVals (xs.take (0))).length = (0) * 3) := by rw [Hid, recVals_len, List.length_take, Nat.min_eq_left (by rw [HNX.out]; omega)]
                      have HDR : Hid ((recVals (xs.drop (0))).length = (nx - (0)) * 3) := by rw [Hid, recVals_len, List.length_drop, HNX.out]
                      have HKL : Hid (0 ≤ xs.length) := by rw [Hid, HNX.out]; omega
                      have HREF : Hid (∀ o, (W.alloc o).drew.heap.size = W.heap.size + 1) := fun o => by show (W.alloc o).heap.size = _; simp
                      clear b0 b1 b2
                      go_wp2_with fail
                      go_region_law ((first
                        | (refine step_append_own rfl (.const (.slice none 0 0)) (.tmp 110) 82 rfl W.heap.size 86 i2 (.agg #[.int .i64 0, .int .u64 0, .slice none 0 0]) 3 40 Try.underlying82 hi2 hz20 hz21 hz22 rfl (by decide) (.slice none 0 0) 0 [] rfl (World.ownsRow_nil _ _ _ _) ⟨gx, 0, none⟩ (0) vc (recVals (xs.take (0))) rfl HTK.out (by first | exact docs_take (w := W) HOD3.out HKL.out | exact docs_take (w := W.alloc _) (HOD3.out.of_block fun z hz => Below.heap_alloc _ _ _ hz) HKL.out) (recVals_cells _) (by unfold maxLen; omega) (by omega) (by first | exact Nat.le_refl _ | (rw [HREF.out]; exact Nat.le_succ _)) ?_
                           intro v1 w1 ho1 hg1 _
                           simp only [Nat.zero_add, List.nil_append] at ho1
                           obtain ⟨va1, vc1, rfl, _⟩ := ownsRow_formK ho1
                           have k1 : ∀ z, z < W.heap.size → w1.heap[z]? = W.heap[z]? := fun z hz => (by first | exact (hg1.block z (show z < (W.alloc _).heap.size by simp; omega) (by simp [Value.ownBlock])).trans (Below.heap_alloc _ _ _ hz) | exact hg1.block z hz (by simp [Value.ownBlock]))
                           have hX1 := k1 X HXL3.out.1
                           have d0 := (World.cell?_of_block (w := W) (a := ⟨X, 0, none⟩) hX1).trans c0
                           have d1 := (World.cell?_of_block (w := W) (a := ⟨X, 1, none⟩) hX1).trans c1
                           have d2 := (World.cell?_of_block (w := W) (a := ⟨X, 2, none⟩) hX1).trans c2)
                        | (refine step_append_own rfl (.tmp 111) (.tmp 113) 82 rfl W.heap.size 86 i2 (.agg #[.int .i64 0, .int .u64 0, .slice none 0 0]) 3 40 Try.underlying82 hi2 hz20 hz21 hz22 rfl (by decide) (.slice va1 (0) vc1) (0) (recVals (xs.take (0))) rfl (by first | exact ho1 | exact World.ownsRow.alloc ho1 _) _ 1 1 [.int .i64 s, .int .u64 num, .slice va0 q vc0] rfl rfl (by first | exact World.news_of_block (heap_alloc_new w1 _) | exact World.news_of_block ((hg1.block W.heap.size (by simp) (by simp [Value.ownBlock])).trans (heap_alloc_new W _))) (by intro u hu; simp at hu; rcases hu with rfl | rfl | rfl <;> rfl) (by unfold maxLen; omega) (by omega) (by have := hg1.size; simp at this ⊢; omega) ?_
                           intro v2 w2 ho2 hg2 _
                           obtain ⟨va2, vc2, rfl, _⟩ := ownsRow_formK ho2
                           have k2 : ∀ z, z < W.heap.size → w2.heap[z]? = W.heap[z]? := fun z hz => by
                             have hne : some z ≠ (Value.slice va1 (0) vc1).ownBlock := fun e => by have := (World.ownsRow.lt ho1 z e.symm).1; omega
                             have hsz := hg1.size
                             first
                               | exact (hg2.block z (show z < (w1.alloc _).heap.size by simp at hsz ⊢; omega) hne).trans ((Below.heap_alloc _ _ _ (by simp at hsz; omega)).trans (k1 z hz))
                               | exact (hg2.block z (by simp at hsz; omega) hne).trans (k1 z hz))
                        | (refine step_append_own rfl (.tmp 114) (.tmp 117) 82 rfl W.heap.size 86 i2 (.agg #[.int .i64 0, .int .u64 0, .slice none 0 0]) 3 40 Try.underlying82 hi2 hz20 hz21 hz22 rfl (by decide) (.slice va2 (0 + 1) vc2) (0 + 1) _ rfl ho2 ⟨gx, if vc = 0 then 0 else 0 * 3, none⟩ (nx - (0)) (vc - (0)) (recVals (xs.drop (0))) (by simp [Act.eval] <;> (split <;> rfl)) HDR.out (docs_drop' (HOD3.out.of_block k2) HKL.out (by rw [HNX.out]; exact hcap)) (recVals_cells _) (by unfold maxLen; omega) (by omega) (by have := (World.ownsRow.lt ho2); have := hg1.size; have := hg2.size; simp at *; omega) ?_
                           intro v3 w3 ho3 hg3 _
                           have k3 : ∀ z, z < W.heap.size → w3.heap[z]? = W.heap[z]? := fun z hz => by
                             have hne : some z ≠ (Value.slice va2 (0 + 1) vc2).ownBlock := fun e => by have := (World.ownsRow.lt ho2 z e.symm).1; omega
                             have h1 := hg1.size
                             have h2 := hg2.size
                             exact (hg3.block z (by simp at h1 h2; omega) hne).trans (k2 z hz)
                           have s3 : W.heap.size ≤ w3.heap.size := (by have h1 := hg1.size; have h2 := hg2.size; have h3 := hg3.size; simp at h1 h2; omega)
                           have t3 : w3.os = W.os ∧ w3.tape = W.tape ∧ w3.output = W.output := ⟨hg3.os.trans (hg2.os.trans hg1.os), hg3.tape.trans (hg2.tape.trans hg1.tape), hg3.output.trans (hg2.output.trans hg1.output)⟩)))
                      all_goals
                        have HRES : Hid (OwnDocs w3 w.heap.size v3 (xs.take 0 ++ ((s : Int), num, va0, vc0, cs) :: xs.drop 0)) := by
                          have hq := HCL.out
                          refine docs_put (x := ((s : Int), num, va0, vc0, cs)) HOD3.out (by
                            have := HBX3.out.row
                            show OwnChgs W w.heap.size (.slice va0 cs.length vc0) cs
                            rw [hq]
                            exact row_down this (by have := HXL3.out; omega)) HW3.out.size HKL.out (by
                            rw [HNX.out]
                            have e : encR ((s : Int), num, va0, vc0, cs) = [.int .i64 s, .int .u64 num, .slice va0 q vc0] := by
                              show [Value.int .i64 s, .int .u64 num, .slice va0 cs.length vc0] = _
                              rw [hq]
                            rw [e]
                            exact ho3) k3
                        have HLT : Hid (LogsTo g (s + 1) ((xs.take 0 ++ ((s : Int), num, va0, vc0, cs) :: xs.drop 0).map RecX.doc)) := by
                          refine logs_put (x := ((s : Int), num, va0, vc0, cs)) HD.out.2.1 hN0.out HOKS.out ?_ HKL.out (fun i hi => ?_) fun i h1 h2 => ?_
                          · show (⟨296 + 248 * (s : Int), num, cs⟩ : Rec) = _
                            rw [HF.out, HNUM.out, HCS.out]
                            have : (296 + 248 * (s : Int)) = ((F : Nat) : Int) := by have := HF.out; unfold logAt at this; omega
                            rw [this]
                          · rw [HF.out, HNUM.out]
                            exact absurd hi (Nat.not_lt_zero i)
                          · rw [HF.out, HNUM.out]
                            exact HK.out i (Nat.zero_le i) (by rw [← HNX.out]; exact h2)
                        have HIN : Hid (∀ x ∈ (xs.take 0 ++ ((s : Int), num, va0, vc0, cs) :: xs.drop 0), 0 ≤ x.at_ ∧ x.at_ < 4) := fun x hx => by
                          rcases List.mem_append.1 hx with e | e
                          · exact HD.out.2.2.1 x (List.mem_of_mem_take e)
                          · rcases List.mem_cons.1 e with rfl | e
                            · show 0 ≤ (s : Int) ∧ (s : Int) < 4; omega
                            · exact HD.out.2.2.1 x (List.mem_of_mem_drop e)
                        have HLN2 : Hid ((xs.take 0 ++ ((s : Int), num, va0, vc0, cs) :: xs.drop 0).length ≤ s + 1) := by
                          have h1 := HD.out.2.2.2.1
                          have h2 := HKL.out
                          show List.length _ ≤ _
                          simp
                          omega
                        have HBF : Hid (Below w.heap.size w w3) := HW3.out.trans ⟨t3.1, t3.2.1, t3.2.2, s3, fun z hz => k3 z (Nat.lt_of_lt_of_le hz HW3.out.size)⟩
                        clear ho3 hg3 k3 s3 t3 ho1 hg1 ho2 hg2 k1 k2
                        go_wp2
                        go_roundw
                        case rel => exact ⟨s + 1, _, by omega, by go_num, HRES.out, HLT.out, HIN.out, HLN2.out, HBF.out⟩
                        case measure => simp [intOf]; omega
                  · have hpn : p < nx := by omega
                    have hpx : (p : Int) < (nx : Int) := by omega
                    have hp1 : ((p : Int) + 1) > 0 := by omega
                    have hp2 : (0 : Int) < (p : Int) + 1 := by omega
                    have hp3 : 0 < p + 1 := by omega
                    have hpe : (p : Int) + 1 - 1 = (p : Int) := by omega
                    obtain ⟨gx, rfl⟩ : ∃ gx, va = some ⟨gx, 0, none⟩ := by
                      obtain ⟨_, _, e, h⟩ := ownsRow_formK HOD2.out.1
                      cases e
                      rcases h with h | ⟨g, h, _⟩
                      · have := HNX.out; omega
                      · exact ⟨g, h⟩
                    have hod := HOD2.out
                    rw [← HNX.out] at hod
                    have y4 := (doc_at hod p (by rw [HNX.out]; exact hpn)).2.1
                    obtain ⟨np, hnp⟩ : ∃ x, xs[p]!.num = x := ⟨_, rfl⟩
                    have HNP : Hid (xs[p]!.num = np) := hnp
                    rw [hnp] at y4
                    clear hod hnp
                    by_cases hgt : num < np
                    · have hd1 : np > num := hgt
                      go_wp2
                      go_quiet (fail)
                      go_wp2
                      go_roundw
                      case rel => exact ⟨p, by omega, by go_num, fun i h1 h2 => by
                        by_cases e : i = p
                        · subst e; rw [HNP.out]; exact hgt
                        · exact HK.out i (by omega) h2, below_drewN HBK.out _⟩
                      case measure => first | (simp [intOf]; done) | (simp [intOf]; omega)
                    · have hd1 : ¬ (num < np) := hgt
                      have hd2 : ¬ (np > num) := hgt
                      by_cases heq : np = num
                      · have HTW : Hid (¬ ∃ rs, GoodLogs 2824 g rs) := no_twice (r := (xs[p]!).doc) hs4 HD.out.2.1 hN0.out (List.mem_map_of_mem (by
                          have hl : p < xs.length := by rw [HNX.out]; exact hpn
                          rw [getElem!_pos xs p hl]
                          exact List.getElem_mem hl)) (by show xs[p]!.num = _; rw [HNP.out, heq, HF.out, HNUM.out])
                        subst heq
                        go_wp2
                        go_quiet (fail)
                        go_wp2
                        go_quiet (fail)
                        go_wp2
                        go_ret2
                        exact ⟨.inl ⟨HTW.out, rfl⟩, below_drewN (below_drewN HW2.out _) _⟩
                      · have HNE : Hid (np < num) := by show np < num; omega
                        have hd3 : (np == num) = false := by simpa using heq
                        go_wp2
                        go_quiet (fail)
                        obtain ⟨n1, rfl⟩ : ∃ n, n = nq := ⟨_, rfl⟩
                        go_wp2
                        go_quiet (fail)
                        obtain ⟨k, hkp⟩ : ∃ k : Nat, p + 1 = k := ⟨_, rfl⟩
                        have hpk : (p : Int) + 1 = (k : Int) := by omega
                        have HKP : Hid (p + 1 = k) := hkp
                        have hknx : k ≤ nx := by omega
                        have hkni : (k : Int) ≤ (nx : Int) := by omega
                        rw [hpk]
                        clear hpx hp1 hp2 hp3 hpe hkp hk
                        have hcap : nx ≤ vc := by
                          obtain ⟨_, h1⟩ := HOD2.out.1
                          rcases h1 with ⟨e, h2⟩ | ⟨_, _, _, e, _, _, h4, _⟩
                          · have := HNX.out; omega
                          · cases e; have := HNX.out; omega
                        have hcapi : (nx : Int) ≤ (vc : Int) := by omega
                        have hkci : (k : Int) ≤ (vc : Int) := by omega
                        have hkc : k ≤ vc := by omega
                        clear hpk
                        obtain ⟨W, hW⟩ : ∃ W, (wr.drewN n1).drewN nq = W := ⟨_, rfl⟩
                        have HBX3 : Hid (BoxD W X s num (.slice va0 q vc0) cs) := by rw [← hW]; exact HBX2.out.later (below_drewN (below_drewN (Below.refl _ _) _) _)
                        have HOD3 : Hid (OwnDocs W w.heap.size (.slice (some ⟨gx, 0, none⟩) xs.length vc) xs) := by rw [← hW, HNX.out]; exact HOD2.out.later (below_drewN (below_drewN (Below.refl _ _) _) _)
                        have HW3 : Hid (Below w.heap.size w W) := by rw [← hW]; exact below_drewN (below_drewN HW2.out _) _
                        have HXL3 : Hid (X < W.heap.size ∧ w.heap.size ≤ X) := ⟨(Array.getElem?_eq_some_iff.1 HBX3.out.obj).1, HSX.out⟩
                        rw [hW]
                        clear hW
                        obtain ⟨c0, c1, c2, _⟩ := HBX3.out.cells
                        have HTK : Hid ((recVals (xs.take (k))).length = (k) * 3) := by rw [Hid, recVals_len, List.length_take, Nat.min_eq_left (by rw [HNX.out]; omega)]
                        have HDR : Hid ((recVals (xs.drop (k))).length = (nx - (k)) * 3) := by rw [Hid, recVals_len, List.length_drop, HNX.out]
                        have HKL : Hid (k ≤ xs.length) := by rw [Hid, HNX.out]; omega
                        have HREF : Hid (∀ o, (W.alloc o).drew.heap.size = W.heap.size + 1) := fun o => by show (W.alloc o).heap.size = _; simp
                        clear b0 b1 b2
                        go_wp2_with fail
                        go_region_law ((first
                          | (refine step_append_own rfl (.const (.slice none 0 0)) (.tmp 110) 82 rfl W.heap.size 86 i2 (.agg #[.int .i64 0, .int .u64 0, .slice none 0 0]) 3 40 Try.underlying82 hi2 hz20 hz21 hz22 rfl (by decide) (.slice none 0 0) 0 [] rfl (World.ownsRow_nil _ _ _ _) ⟨gx, 0, none⟩ (k) vc (recVals (xs.take (k))) rfl HTK.out (by first | exact docs_take (w := W) HOD3.out HKL.out | exact docs_take (w := W.alloc _) (HOD3.out.of_block fun z hz => Below.heap_alloc _ _ _ hz) HKL.out) (recVals_cells _) (by unfold maxLen; omega) (by omega) (by first | exact Nat.le_refl _ | (rw [HREF.out]; exact Nat.le_succ _)) ?_
                             intro v1 w1 ho1 hg1 _
                             simp only [Nat.zero_add, List.nil_append] at ho1
                             obtain ⟨va1, vc1, rfl, _⟩ := ownsRow_formK ho1
                             have k1 : ∀ z, z < W.heap.size → w1.heap[z]? = W.heap[z]? := fun z hz => (by first | exact (hg1.block z (show z < (W.alloc _).heap.size by simp; omega) (by simp [Value.ownBlock])).trans (Below.heap_alloc _ _ _ hz) | exact hg1.block z hz (by simp [Value.ownBlock]))
                             have hX1 := k1 X HXL3.out.1
                             have d0 := (World.cell?_of_block (w := W) (a := ⟨X, 0, none⟩) hX1).trans c0
                             have d1 := (World.cell?_of_block (w := W) (a := ⟨X, 1, none⟩) hX1).trans c1
                             have d2 := (World.cell?_of_block (w := W) (a := ⟨X, 2, none⟩) hX1).trans c2)
                          | (refine step_append_own rfl (.tmp 111) (.tmp 113) 82 rfl W.heap.size 86 i2 (.agg #[.int .i64 0, .int .u64 0, .slice none 0 0]) 3 40 Try.underlying82 hi2 hz20 hz21 hz22 rfl (by decide) (.slice va1 (k) vc1) (k) (recVals (xs.take (k))) rfl (by first | exact ho1 | exact World.ownsRow.alloc ho1 _) _ 1 1 [.int .i64 s, .int .u64 num, .slice va0 q vc0] rfl rfl (by first | exact World.news_of_block (heap_alloc_new w1 _) | exact World.news_of_block ((hg1.block W.heap.size (by simp) (by simp [Value.ownBlock])).trans (heap_alloc_new W _))) (by intro u hu; simp at hu; rcases hu with rfl | rfl | rfl <;> rfl) (by unfold maxLen; omega) (by omega) (by have := hg1.size; simp at this ⊢; omega) ?_
                             intro v2 w2 ho2 hg2 _
                             obtain ⟨va2, vc2, rfl, _⟩ := ownsRow_formK ho2
                             have k2 : ∀ z, z < W.heap.size → w2.heap[z]? = W.heap[z]? := fun z hz => by
                               have hne : some z ≠ (Value.slice va1 (k) vc1).ownBlock := fun e => by have := (World.ownsRow.lt ho1 z e.symm).1; omega
                               have hsz := hg1.size
                               first
                                 | exact (hg2.block z (show z < (w1.alloc _).heap.size by simp at hsz ⊢; omega) hne).trans ((Below.heap_alloc _ _ _ (by simp at hsz; omega)).trans (k1 z hz))
                                 | exact (hg2.block z (by simp at hsz; omega) hne).trans (k1 z hz))
                          | (refine step_append_own rfl (.tmp 114) (.tmp 117) 82 rfl W.heap.size 86 i2 (.agg #[.int .i64 0, .int .u64 0, .slice none 0 0]) 3 40 Try.underlying82 hi2 hz20 hz21 hz22 rfl (by decide) (.slice va2 (k + 1) vc2) (k + 1) _ rfl ho2 ⟨gx, if vc = k then 0 else k * 3, none⟩ (nx - (k)) (vc - (k)) (recVals (xs.drop (k))) (by simp [Act.eval]; split <;> rfl) HDR.out (docs_drop' (HOD3.out.of_block k2) HKL.out (by rw [HNX.out]; exact hcap)) (recVals_cells _) (by unfold maxLen; omega) (by omega) (by have := (World.ownsRow.lt ho2); have := hg1.size; have := hg2.size; simp at *; omega) ?_
                             intro v3 w3 ho3 hg3 _
                             have k3 : ∀ z, z < W.heap.size → w3.heap[z]? = W.heap[z]? := fun z hz => by
                               have hne : some z ≠ (Value.slice va2 (k + 1) vc2).ownBlock := fun e => by have := (World.ownsRow.lt ho2 z e.symm).1; omega
                               have h1 := hg1.size
                               have h2 := hg2.size
                               exact (hg3.block z (by simp at h1 h2; omega) hne).trans (k2 z hz)
                             have s3 : W.heap.size ≤ w3.heap.size := (by have h1 := hg1.size; have h2 := hg2.size; have h3 := hg3.size; simp at h1 h2; omega)
                             have t3 : w3.os = W.os ∧ w3.tape = W.tape ∧ w3.output = W.output := ⟨hg3.os.trans (hg2.os.trans hg1.os), hg3.tape.trans (hg2.tape.trans hg1.tape), hg3.output.trans (hg2.output.trans hg1.output)⟩)))
                        all_goals
                          have HRES : Hid (OwnDocs w3 w.heap.size v3 (xs.take k ++ ((s : Int), num, va0, vc0, cs) :: xs.drop k)) := by
                            have hq := HCL.out
                            refine docs_put (x := ((s : Int), num, va0, vc0, cs)) HOD3.out (by
                              have := HBX3.out.row
                              show OwnChgs W w.heap.size (.slice va0 cs.length vc0) cs
                              rw [hq]
                              exact row_down this (by have := HXL3.out; omega)) HW3.out.size HKL.out (by
                              rw [HNX.out]
                              have e : encR ((s : Int), num, va0, vc0, cs) = [.int .i64 s, .int .u64 num, .slice va0 q vc0] := by
                                show [Value.int .i64 s, .int .u64 num, .slice va0 cs.length vc0] = _
                                rw [hq]
                              rw [e]
                              exact ho3) k3
                          have HLT : Hid (LogsTo g (s + 1) ((xs.take k ++ ((s : Int), num, va0, vc0, cs) :: xs.drop k).map RecX.doc)) := by
                            refine logs_put (x := ((s : Int), num, va0, vc0, cs)) HD.out.2.1 hN0.out HOKS.out ?_ HKL.out (fun i hi => ?_) fun i h1 h2 => ?_
                            · show (⟨296 + 248 * (s : Int), num, cs⟩ : Rec) = _
                              rw [HF.out, HNUM.out, HCS.out]
                              have : (296 + 248 * (s : Int)) = ((F : Nat) : Int) := by have := HF.out; unfold logAt at this; omega
                              rw [this]
                            · rw [HF.out, HNUM.out]
                              have hlt : np < num := HNE.out
                              have hil : i ≤ p := by have := HKP.out; omega
                              have hpl : p < xs.length := by have := HKL.out; have := HKP.out; omega
                              by_cases e : i = p
                              · subst e; rw [HNP.out]; exact hlt
                              · have h := HD.out.2.1.rise
                                have h2 := List.pairwise_iff_getElem.1 h i p (by simp; omega) (by simp; omega) (by omega)
                                simp only [List.getElem_map] at h2
                                have h3 : (xs[i]'(by omega)).num < (xs[p]'hpl).num := h2
                                rw [getElem!_pos xs i (by omega)]
                                have h4 := HNP.out
                                rw [getElem!_pos xs p hpl] at h4
                                omega
                            · rw [HF.out, HNUM.out]
                              exact HK.out i (by have := HKP.out; omega) (by rw [← HNX.out]; exact h2)
                          have HIN : Hid (∀ x ∈ (xs.take k ++ ((s : Int), num, va0, vc0, cs) :: xs.drop k), 0 ≤ x.at_ ∧ x.at_ < 4) := fun x hx => by
                            rcases List.mem_append.1 hx with e | e
                            · exact HD.out.2.2.1 x (List.mem_of_mem_take e)
                            · rcases List.mem_cons.1 e with rfl | e
                              · show 0 ≤ (s : Int) ∧ (s : Int) < 4; omega
                              · exact HD.out.2.2.1 x (List.mem_of_mem_drop e)
                          have HLN2 : Hid ((xs.take k ++ ((s : Int), num, va0, vc0, cs) :: xs.drop k).length ≤ s + 1) := by
                            have h1 := HD.out.2.2.2.1
                            have h2 := HKL.out
                            show List.length _ ≤ _
                            simp
                            omega
                          have HBF : Hid (Below w.heap.size w w3) := HW3.out.trans ⟨t3.1, t3.2.1, t3.2.2, s3, fun z hz => k3 z (Nat.lt_of_lt_of_le hz HW3.out.size)⟩
                          clear ho3 hg3 k3 s3 t3 ho1 hg1 ho2 hg2 k1 k2
                          go_wp2
                          go_roundw
                          case rel => exact ⟨s + 1, _, by omega, by go_num, HRES.out, HLT.out, HIN.out, HLN2.out, HBF.out⟩
                          case measure => simp [intOf]; omega
              · have hr1 : (rt != 0) = true := by simpa using hr0
                have HBAD : Hid (¬ ∃ rs, GoodLogs 2824 g rs) := no_slot hs4 (slot_wrong hN0.out (by rw [HCS.out, hrt]; exact hr0))
                clear hr0 hrt
                go_wp2_with fail
                refine Calls.mono (Hid.out HRI) ?_
                rintro e w5 ⟨rfl, hb5⟩
                have HB5 : Hid (Below w.heap.size w w5) := HBW.out.trans (hb5.mono HBW.out.size)
                clear hb5
                go_wp2
                go_ret2
                exact ⟨.inl ⟨HBAD.out, rfl⟩, HB5.out⟩
    · have hse : s = 4 := by omega
      have hge : ¬ ((s : Int) < 4) := by omega
      have HL4 : Hid (LogsTo g 4 (xs.map RecX.doc)) := by have := HD.out.2.1; rw [hse] at this; exact this
      clear hse hs4 hs
      go_wp2
      go_ret2
      exact ⟨.inr ⟨_, xs, rfl, HL4.out.good HRB.out, HD.out.2.2.1, HD.out.1⟩, HD.out.2.2.2.2⟩

end Go.Proofs.Ytfalchacdebdpaa
