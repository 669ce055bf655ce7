/- The last contracts of the document's own view: Block, SetBlock; and of Same. -/
import Derived.Test.YtomlbifplliakaaGreatRh
namespace Go.Proofs.YtomlbifplliakaaGreat
open Go.RowKit Go.Maps Go.ChangeMaps

theorem rset (w0 : World) (R : RLay) (node : Int) (k l s v d0 d1 d2 d3 d4 m : Int) (w : World) (h : RefIs w0 w R) (hwf : Cd.Rt k l s d0 d1 d2 d3 d4 m → ∀ i, i < 8 → (Lit.int .u64 (cardRow k l s v d0 d1 d2 d3 d4 m i)).wf = true) :
    Calls Tryz.prog 34 #[.pointer (some ⟨R.rb, 0, none⟩), .int .i64 node, .agg #[.int .i64 k, .int .i64 l, .int .i64 s, .int .u64 v, .int .i64 d0, .int .i64 d1, .int .i64 d2, .int .i64 d3, .int .i64 d4, .int .i64 m]] w fun e w' => SomeInt .i64 e ∧ RefIs w0 w' R ∧ Only R.blocks w w' := by
  by_cases hr : Cd.Rt k l s d0 d1 d2 d3 d4 m
  · by_cases hn : 0 ≤ node ∧ node < 24
    · obtain ⟨j, rfl⟩ : ∃ j : Nat, node = j := ⟨node.toNat, by omega⟩
      exact rset_yes w0 R j k l s v d0 d1 d2 d3 d4 m w h hr (by omega) (hwf hr)
    · exact rset_node w0 R node k l s v d0 d1 d2 d3 d4 m w h hr (by omega)
  · exact rset_no w0 R node k l s v d0 d1 d2 d3 d4 m w h hr

set_option maxHeartbeats 1000000 in
set_option maxRecDepth 100000 in
theorem rblock (w0 : World) (R : RLay) (k : Int) (w : World) (h : RefIs w0 w R) :
    Calls Tryz.prog 36 #[.pointer (some ⟨R.rb, 0, none⟩), .int .i64 k] w fun e w' => SomeWords w' e ∧ Below w.heap.size w w' := by
  by_cases hk : 0 ≤ k ∧ k < 96
  · obtain ⟨j, rfl⟩ : ∃ j : Nat, k = j := ⟨k.toNat, by omega⟩
    have hj : j < 96 := by omega
    have hj2 : (j : Int) < 96 := by omega
    obtain ⟨i0, hi, hz0, hz1, hz2⟩ := info_parts Tryz.info22
    have c1 := h.c1
    have hcap := h.now.cap
    obtain ⟨f, hf⟩ := h.now.words
    have hnews : ∀ (i : Nat) (u : Value), (rowI (fun i => f (1288 + 16 * j + i)) 16)[i]? = some u → w.cell? ((⟨R.nb, 1288 + 16 * j, none⟩ : Addr).add i) = some u := fun i u hu => by
      by_cases hi : i < 16
      · rw [rowI_at _ _ _ hi] at hu
        cases hu
        rw [add_none]
        exact (hf _ (by omega)).1
      · rw [rowI_out _ _ _ hi] at hu
        cases hu
    clear hk hf h
    go_enter Tryz.func36, Tryz.ntmps36
    have e1 : 1304 + 16 * j - (1288 + 16 * j) = 16 := by omega
    have hnil : w.ownsRow w.heap.size 35 1 (.slice none 0 0) 0 [] := World.ownsRow_nil _ _ _ _
    go_wp2_with (first
      | (at_builtin; rw [e1]; refine wpList_append_own _ rfl _ _ 25 rfl w.heap.size 35 i0 (.int .u64 0) 1 8 Tryz.underlying25 hi hz0 hz1 hz2 rfl (by decide) _ 0 [] rfl hnil ⟨R.nb, 1288 + 16 * j, none⟩ 16 (R.nc - (1288 + 16 * j)) (rowI (fun i => f (1288 + 16 * j + i)) 16) rfl (by rw [rowI_len]) hnews (rowI_one _ _) (by unfold maxLen; omega) (by omega) (Nat.le_refl _) ?_; intro v' w1 hrow hg hnil')
      | go_in)
    go_ret2
    have hb : Below w.heap.size w w1 := (Below.refl _ _).grown hg (Nat.le_refl _) (fun k hk => by cases hk)
    obtain ⟨a, c, rfl, ha⟩ := ownsRow_form0 hrow
    rcases ha with h0 | ⟨g, rfl, _⟩
    · omega
    · refine ⟨⟨some ⟨g, 0, none⟩, 0 + 16, c, fun i => f (1288 + 16 * j + i), 0, rfl, .inr ⟨g, 0, rfl, (hrow.lt g rfl).2, fun i hi => ?_⟩, by omega⟩, hb⟩
      rw [Nat.zero_add, hrow.cellAt i (by omega)]
      simpa using rowI_at (fun i => f (1288 + 16 * j + i)) 16 i (by omega)
  · by_cases h0 : k < 0
    · clear hk h
      go_enter Tryz.func36, Tryz.ntmps36
      go_wp2
      go_ret2
      exact ⟨⟨none, 0, 0, fun _ => 0, 1, rfl, .inl rfl, by omega⟩, Below.refl _ _⟩
    · have h1 : 96 ≤ k := by omega
      clear hk h
      go_enter Tryz.func36, Tryz.ntmps36
      go_wp2
      go_ret2
      exact ⟨⟨none, 0, 0, fun _ => 0, 1, rfl, .inl rfl, by omega⟩, Below.refl _ _⟩

theorem rsetBlock_no (w0 : World) (R : RLay) (k : Int) (a : Option Addr) (n c : Nat) (w : World) (h : RefIs w0 w R) (hn : k < 0 ∨ 96 ≤ k ∨ 16 < n) :
    Calls Tryz.prog 38 #[.pointer (some ⟨R.rb, 0, none⟩), .int .i64 k, .slice a n c] w fun e w' => SomeInt .i64 e ∧ RefIs w0 w' R ∧ Only R.blocks w w' := by
  have HH : Hid (RefIs w0 w R) := h
  by_cases h0 : k < 0
  · clear h hn
    go_enter Tryz.func38, Tryz.ntmps38
    go_wp2
    go_ret
    exact ⟨⟨_, rfl⟩, HH.out, Only.refl _ _⟩
  · by_cases h1 : 96 ≤ k
    · clear h hn
      go_enter Tryz.func38, Tryz.ntmps38
      go_wp2
      go_ret
      exact ⟨⟨_, rfl⟩, HH.out, Only.refl _ _⟩
    · have h2 : (16 : Int) < (n : Int) := by omega
      have h3 : k < 96 := by omega
      clear h hn h1
      go_enter Tryz.func38, Tryz.ntmps38
      go_wp2
      go_ret
      exact ⟨⟨_, rfl⟩, HH.out, Only.refl _ _⟩
set_option maxHeartbeats 1000000 in
set_option maxRecDepth 100000 in
theorem rsetBlock_yes (w0 : World) (R : RLay) (j : Nat) (a : Option Addr) (n c : Nat) (f : Nat → Int) (w : World) (h : RefIs w0 w R) (hj : j < 96) (hn : n ≤ 16) (hU : UAt w0 a n f) (hf : ∀ i, i < n → (Lit.int .u64 (f i)).wf = true) :
    Calls Tryz.prog 38 #[.pointer (some ⟨R.rb, 0, none⟩), .int .i64 (j : Int), .slice a n c] w fun e w' => SomeInt .i64 e ∧ RefIs w0 w' R ∧ Only R.blocks w w' := by
  have HH : Hid (RefIs w0 w R) := h
  have HU : Hid (UAt w0 a n f) := hU
  have HF : Hid (∀ i, i < n → (Lit.int .u64 (f i)).wf = true) := hf
  have hj2 : (j : Int) < 96 := by omega
  have hn2 : (n : Int) ≤ 16 := by omega
  clear h hU hf
  go_enter Tryz.func38, Tryz.ntmps38
  go_wp2
  go_loopw [7, 8] (fun i _ wr => ∃ q : Nat, q ≤ 16 ∧ i = .int .i64 q ∧ Hid (RefIs w0 wr R) ∧ Hid (Only R.blocks w wr)) (fun i _ _ => 16 - (intOf i).toNat)
  case atStart => exact ⟨0, by omega, rfl, HH.out, Only.refl _ _⟩
  case round =>
    obtain ⟨q, hq, rfl, HR, HO⟩ := hrel
    by_cases hlt : q < 16
    · have hb : (q : Int) < 16 := by omega
      have c1 := HR.out.c1
      obtain ⟨x, hx, _⟩ := HR.out.now.cell (1288 + 16 * j + q) (by omega)
      have fz := HR.out.now.frozen (1288 + 16 * j + q)
      have hin : 1288 + 16 * (j : Int) + (q : Int) < 2824 := by omega
      by_cases hqn : q < n
      · obtain ⟨b, o, rfl, hbl, hc⟩ := HU.out.resolve_left (by omega)
        have x1 := (HR.out.bel.cell (p := ⟨b, o + q, none⟩) hbl).trans (hc q hqn)
        have hv := HF.out q hqn
        obtain ⟨X, hX⟩ : ∃ X, f q = X := ⟨_, rfl⟩
        rw [hX] at x1 hv
        have HV : Hid _ := HR.out.setNow (1288 + 16 * j + q) X hv
        have hqn' : (q : Int) < (n : Int) := by omega
        clear hX hc
        go_wp2
        go_roundw
        case rel => exact ⟨q + 1, by omega, by go_num, HV.out, HO.out.setCell (p := ⟨R.nb, 1288 + 16 * j + q, none⟩) (by simp [RLay.blocks]) _⟩
        case measure => simp [intOf]; omega
      · have HV : Hid _ := HR.out.setNow (1288 + 16 * j + q) 0 (by decide)
        have hqn' : ¬ (q : Int) < (n : Int) := by omega
        go_wp2
        go_roundw
        case rel => exact ⟨q + 1, by omega, by go_num, HV.out, HO.out.setCell (p := ⟨R.nb, 1288 + 16 * j + q, none⟩) (by simp [RLay.blocks]) _⟩
        case measure => simp [intOf]; omega
    · obtain rfl : q = 16 := by omega
      go_wp2
      go_ret
      exact ⟨⟨_, rfl⟩, HR.out, HO.out⟩
theorem rsetBlock (w0 : World) (R : RLay) (k : Int) (a : Option Addr) (n c : Nat) (f : Nat → Int) (w : World) (h : RefIs w0 w R) (hU : UAt w0 a n f) (hf : ∀ i, i < n → (Lit.int .u64 (f i)).wf = true) :
    Calls Tryz.prog 38 #[.pointer (some ⟨R.rb, 0, none⟩), .int .i64 k, .slice a n c] w fun e w' => SomeInt .i64 e ∧ RefIs w0 w' R ∧ Only R.blocks w w' := by
  by_cases hn : 0 ≤ k ∧ k < 96 ∧ n ≤ 16
  · obtain ⟨j, rfl⟩ : ∃ j : Nat, k = j := ⟨k.toNat, by omega⟩
    exact rsetBlock_yes w0 R j a n c f w h (by omega) hn.2.2 hU hf
  · exact rsetBlock_no w0 R k a n c w h (by omega)

set_option maxHeartbeats 1000000 in
theorem same_words (a1 a2 : Option Addr) (n1 c1 n2 c2 : Nat) (f1 f2 : Nat → Int) (w : World) (h1 : UAt w a1 n1 f1) (h2 : UAt w a2 n2 f2) (l1 : n1 ≤ 9223372036854775807) :
    Calls Tryz.prog 16 #[.slice a1 n1 c1, .slice a2 n2 c2] w fun e w' => SomeBool e ∧ Below w.heap.size w w' := by
  have H1 : Hid (UAt w a1 n1 f1) := h1
  have H2 : Hid (UAt w a2 n2 f2) := h2
  clear h1 h2
  by_cases hn : n1 = n2
  · subst hn
    go_enter Tryz.func16, Tryz.ntmps16
    go_wp2
    go_loopw [5] (fun i wr => ∃ k : Nat, k ≤ n1 ∧ i = .int .i64 k ∧ Hid (Below w.heap.size w wr)) (fun i _ => n1 - (intOf i).toNat)
    case atStart => exact ⟨0, Nat.zero_le _, rfl, Below.refl _ _⟩
    case round =>
      obtain ⟨k, hk, rfl, HB⟩ := hrel
      by_cases hlt : k < n1
      · obtain ⟨b, o, rfl, hb, hc⟩ := H1.out.resolve_left (by omega)
        obtain ⟨b', o', rfl, hb', hc'⟩ := H2.out.resolve_left (by omega)
        have x1 := (HB.out.cell (p := ⟨b, o + k, none⟩) hb).trans (hc k hlt)
        have x2 := (HB.out.cell (p := ⟨b', o' + k, none⟩) hb').trans (hc' k hlt)
        have hkn : (k : Int) < (n1 : Int) := by omega
        obtain ⟨X, hX⟩ : ∃ X, f1 k = X := ⟨_, rfl⟩
        obtain ⟨Y, hY⟩ : ∃ Y, f2 k = Y := ⟨_, rfl⟩
        rw [hX] at x1
        rw [hY] at x2
        clear hX hY hc hc'
        by_cases he : X = Y
        · subst he
          go_wp2
          go_quiet (fail)
          go_wp2
          go_roundw
          case rel => exact ⟨k + 1, by omega, by go_num, below_drewN HB.out _⟩
          case measure => simp [intOf]; omega
        · have e1 : (X == Y) = false := by simpa using he
          have e2 : (X != Y) = true := by simpa using he
          clear he
          go_wp2
          go_quiet (fail)
          go_wp2
          go_ret
          exact ⟨⟨_, rfl⟩, below_drewN HB.out _⟩
      · obtain rfl : k = n1 := by omega
        go_wp2
        go_ret
        exact ⟨⟨_, rfl⟩, HB.out⟩
  · have e1 : ((n1 : Int) == (n2 : Int)) = false := by simp; omega
    have e2 : ((n1 : Int) != (n2 : Int)) = true := by simp; omega
    clear hn
    go_enter Tryz.func16, Tryz.ntmps16
    go_wp2
    go_ret
    exact ⟨⟨_, rfl⟩, Below.refl _ _⟩

end Go.Proofs.YtomlbifplliakaaGreat
