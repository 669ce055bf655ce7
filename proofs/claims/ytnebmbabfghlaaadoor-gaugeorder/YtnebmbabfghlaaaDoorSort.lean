/- Contracts of Clone, SortStableFunc and Sort, for every list. -/
import Derived.Test.YtnebmbabfghlaaaDoorStable
namespace Go.Proofs.YtnebmbabfghlaaaDoor
open Go.RowKit
theorem info23 : (Tryd.prog.info? 23).map (fun i => (i.zero, i.size, i.bytes)) = some (some (Value.float .f64 0), 1, 8) := by kernel_rfl

theorem run_eql_slice_nil (w : World) (a : Option Addr) (l c : Nat) : (binOp .eql 22 (.slice a l c) (.slice none 0 0)).run Tryd.prog w = .ok (.bool a.isNone) w := by
  simp only [binOp]
  simp [run_equal_slice_nil w 22 23 a l c Tryd.underlying22]
attribute [local go_sem] run_eql_slice_nil

theorem clone_nil (w : World) : Calls Tryd.prog 47 #[.slice none 0 0] w fun e w' => e = .returned (.slice none 0 0) ∧ w' = w := by
  go_enter Tryd.func47, Tryd.ntmps47
  go_wp2
  go_ret
  exact ⟨rfl, rfl⟩

set_option maxHeartbeats 1000000 in
theorem clone_some (x : Addr) (cap : Nat) (xs : List Nat) (w : World) (h : FAt w (some x) xs) :
    Calls Tryd.prog 47 #[.slice (some x) xs.length cap] w fun e w' => ∃ v', e = .returned v' ∧ v' ≠ .slice none 0 0 ∧ w'.ownsRow w.heap.size 23 1 v' xs.length (gRow (nth xs) (fun i => i) xs.length) ∧ Below w.heap.size w w' := by
  obtain ⟨i0, hi, hz0, hz1, hz2⟩ := info_parts info23
  have H : Hid (FAt w (some x) xs) := h
  have hl := h.1
  clear h
  generalize hn : xs.length = n at *
  have HN : Hid (xs.length = n) := hn
  clear hn
  have hnews : ∀ j u, (gRow (nth xs) (fun i => i) n)[j]? = some u → w.cell? (x.add j) = some u := fun j u hj => by
    by_cases hjn : j < n
    · obtain ⟨b, o, e, hb, hc⟩ := H.out.at_ (by rw [HN.out]; omega)
      cases e
      rw [gRow_at _ _ _ _ hjn] at hj
      have e2 : (⟨b, o, none⟩ : Addr).add j = ⟨b, o + j, none⟩ := by
        unfold Addr.add
        by_cases e : j = 0 <;> simp [e]
      rw [e2, hc j (by rw [HN.out]; exact hjn)]
      exact hj
    · rw [List.getElem?_eq_none (by rw [gRow_len]; omega)] at hj; cases hj
  have HNW : Hid (∀ j u, (gRow (nth xs) (fun i => i) n)[j]? = some u → w.cell? (x.add j) = some u) := hnews
  have hblk : 0 < n → x.block < w.heap.size := fun h0 => by
    obtain ⟨b, o, e, hb, hc⟩ := H.out.at_ (by rw [HN.out]; omega)
    cases e; exact hb
  have HB : Hid (0 < n → x.block < w.heap.size) := hblk
  clear hnews hblk
  go_enter Tryd.func47, Tryd.ntmps47
  go_wp2_with (at_builtin; refine wpList_append_own _ rfl _ _ 22 rfl w.heap.size 23 i0 (.float .f64 0) 1 8 Tryd.underlying22 hi hz0 hz1 hz2 rfl (by decide) _ 0 [] rfl ?c0 x n cap (gRow (nth xs) (fun i => i) n) rfl (by rw [gRow_len]; omega) ?c1 ?c2 ?c3 ?c4 ?c5 ?_)
  case c0 => exact World.ownsRow_made w #[] 0 (Nat.le_refl _) (by unfold maxLen; omega) rfl
  case c1 =>
    intro j u hj
    have hjn : j < n := by
      rcases Nat.lt_or_ge j n with h | h
      · exact h
      · rw [List.getElem?_eq_none (by rw [gRow_len]; exact h)] at hj; cases hj
    have h1 := HNW.out j u hj
    have h2 := HB.out (by omega)
    have e : (x.add j).block = x.block := by unfold Addr.add; split <;> rfl
    rw [World.cell?_alloc_lt]
    · exact h1
    · rw [e]; exact h2
  case c2 =>
    intro u hu
    unfold gRow at hu
    obtain ⟨i, _, rfl⟩ := List.mem_map.1 hu
    rfl
  case c3 => unfold maxLen; omega
  case c4 => omega
  case c5 => simp
  intro v' w1 hown hgrow hne
  have hb1 : Below w.heap.size w w1 := ((Below.refl _ _).alloc (Nat.le_refl _) _).grown hgrow (by simp) (fun j h => by
    simp [Value.ownBlock] at h; omega)
  have HO : Hid (w1.ownsRow w.heap.size 23 1 v' n (gRow (nth xs) (fun i => i) n)) := hown
  have HNE : Hid (¬ v' = .slice none 0 0) := hne
  clear hown hgrow hne
  go_wp2
  go_ret
  exact ⟨v', rfl, HNE.out, HO.out, hb1⟩

theorem insertion_nil (w : World) : Calls Tryd.prog 56 #[.slice none 0 0, .int .i64 0, .int .i64 0, cmpV] w fun e w' => e = .returned (.tuple #[]) ∧ w' = w := by
  go_enter Tryd.func56, Tryd.ntmps56
  go_wp2
  go_loopg [8, 9] 0 (fun q x _ wr => x = .int .i64 1 ∧ wr = w)
  case atStart => exact ⟨rfl, rfl⟩
  case round =>
    obtain ⟨rfl, rfl⟩ := hrel
    go_wp2
    go_end0
    exact ⟨rfl, rfl⟩
theorem stable_nil (w : World) : Calls Tryd.prog 54 #[.slice none 0 0, .int .i64 0, cmpV] w fun e w' => e = .returned (.tuple #[]) ∧ w' = w := by
  go_enter Tryd.func54, Tryd.ntmps54
  go_wp2
  go_loopg [7, 8] 0 (fun q x y wr => x = .int .i64 0 ∧ y = .int .i64 20 ∧ wr = w)
  case atStart => exact ⟨rfl, rfl, rfl⟩
  case round =>
    obtain ⟨rfl, rfl, rfl⟩ := hrel
    go_wp2_with fail
    refine (insertion_nil _).mono ?_
    rintro e w1 ⟨rfl, rfl⟩
    go_wp2
    go_loopg [6, 7, 8, 9] 0 (fun q x _ _ _ wy => x = .int .i64 20 ∧ wy = w1)
    case atStart => exact ⟨rfl, rfl⟩
    case round =>
      obtain ⟨rfl, rfl⟩ := hrel
      go_wp2
      go_end0
      exact ⟨rfl, rfl⟩

/-- What Sort answers: a list in new memory: which place of the first list each place holds. -/
structure SortOf (w w' : World) (a : Option Addr) (n : Nat) (xs ys : List Nat) : Prop where
  at_ : FAt w' a ys
  len : ys.length = n
  t : ∃ t, Sorted (nth xs) t n ∧ ys = (List.range n).map fun i => nth xs (t i)
  nil : a = none → ys = []
  b : Below w.heap.size w w'

theorem ssf_nil (w : World) : Calls Tryd.prog 48 #[.slice none 0 0, cmpV] w fun e w' => e = .returned (.tuple #[]) ∧ w' = w := by
  go_enter Tryd.func48, Tryd.ntmps48
  go_wp2_with fail
  refine (stable_nil _).mono ?_
  rintro e w' ⟨rfl, rfl⟩
  go_wp2
  go_end0
  exact ⟨rfl, rfl⟩
theorem ssf_any (w : World) (base B cap n : Nat) (g : Nat → Nat) (h : Own w base B cap n g (fun i => i)) (hn : n ≤ 100) :
    Calls Tryd.prog 48 #[.slice (some ⟨B, 0, none⟩) n cap, cmpV] w fun e w' => e = .returned (.tuple #[]) ∧ ∃ t, Own w' base B cap n g t ∧ Sorted g t n ∧ Below base w w' := by
  have H : Hid (Own w base B cap n g (fun i => i)) := h
  clear h
  go_enter Tryd.func48, Tryd.ntmps48
  go_wp2_with fail
  refine (stable_any w base B cap n g H.out hn).mono ?_
  rintro e w' ⟨rfl, t, ho, hs, hb⟩
  have HR : Hid (∃ t, Own w' base B cap n g t ∧ Sorted g t n ∧ Below base w w') := ⟨t, ho, hs, hb⟩
  clear ho hs hb
  go_wp2
  go_end0
  exact ⟨rfl, HR.out⟩

theorem sorted_list {w w' : World} {base B cap n : Nat} {xs : List Nat} {t : Nat → Nat} (hx : ∀ x ∈ xs, x < 18446744073709551616) (hl : xs.length = n) (h100 : n ≤ 100) (ho : Own w' base B cap n (nth xs) t) (hs : Sorted (nth xs) t n) (hb : Below w.heap.size w w') :
    SortOf w w' (some ⟨B, 0, none⟩) n xs ((List.range n).map fun i => nth xs (t i)) := by
  refine ⟨⟨by simpa using h100, ?_, ?_⟩, by simp, ⟨t, hs, rfl⟩, fun h => (by cases h), hb⟩
  · intro y hy
    obtain ⟨i, hi, rfl⟩ := List.mem_map.1 hy
    have hti := hs.o i (by simpa using hi)
    have e : nth xs (t i) = xs[t i]'(by omega) := by simp [nth, List.getD, hl, hti]
    rw [e]; exact hx _ (List.getElem_mem _)
  · refine .inr ⟨B, 0, rfl, ho.lt.2, fun i hi => ?_⟩
    have hi' : i < n := by simpa using hi
    rw [Nat.zero_add, ho.cell hi']
    congr 2
    simp [nth, hi']

theorem sort_any (a : Option Addr) (cap : Nat) (xs : List Nat) (w : World) (h : FAt w a xs) (hnil : a = none → xs = [] ∧ cap = 0) :
    Calls Tryd.prog 21 #[.slice a xs.length cap] w fun e w' => ∃ a' cap' ys, e = .returned (.slice a' xs.length cap') ∧ (a' = none → xs.length = 0 ∧ cap' = 0) ∧ SortOf w w' a' xs.length xs ys := by
  cases a with
  | none =>
    obtain ⟨rfl, rfl⟩ := hnil rfl
    clear h hnil
    go_enter Tryd.func21, Tryd.ntmps21
    go_wp2_with fail
    refine (clone_nil _).mono ?_
    rintro e w' ⟨rfl, rfl⟩
    go_wp2_with fail
    refine (ssf_nil _).mono ?_
    rintro e w1 ⟨rfl, rfl⟩
    go_wp2
    go_ret
    exact ⟨none, 0, [], rfl, (fun _ => by simp), ⟨by simp, by simp, .inl rfl⟩, rfl, ⟨fun i => i, ⟨fun i j _ h1 h2 => by simp at h2, fun i hi => by simp at hi, fun j hj => by simp at hj⟩, rfl⟩, fun _ => rfl, Below.refl _ _⟩
  | some x =>
    have H : Hid (FAt w (some x) xs) := h
    clear h hnil
    go_enter Tryd.func21, Tryd.ntmps21
    go_wp2_with fail
    refine (clone_some x cap xs w H.out).mono ?_
    rintro e w1 ⟨v', rfl, hne, hown, hb1⟩
    rcases hown.2 with ⟨e0, _⟩ | ⟨B, cap', cur, rfl, _⟩
    · exact absurd e0 hne
    · have HO : Hid (Own w1 w.heap.size B cap' xs.length (nth xs) (fun i => i)) := hown
      clear hown hne
      go_wp2_with fail
      refine (ssf_any w1 w.heap.size B cap' xs.length (nth xs) HO.out H.out.1).mono ?_
      rintro e w2 ⟨rfl, t, ho2, hs2, hb2⟩
      have HR : Hid (SortOf w w2 (some ⟨B, 0, none⟩) xs.length xs ((List.range xs.length).map fun i => nth xs (t i))) := sorted_list H.out.2.1 rfl H.out.1 ho2 hs2 (hb1.trans hb2)
      clear ho2 hs2 hb2 HO
      go_wp2
      go_ret
      exact ⟨_, _, _, rfl, (fun h => by cases h), HR.out⟩
end Go.Proofs.YtnebmbabfghlaaaDoor
