/- Contracts of Parent, and of the document's: the path without its last name, and that, or the error. -/
import Derived.Test.YtlpikfebbfcofaaDoorRefSplit
import Derived.OwnWalk
namespace Go.Proofs.YtlpikfebbfcofaaDoor
open Go.RowKit

/-- what a Parent answers -/
def pv (p : List UInt8) : Value :=
  match Sp p with
  | none => .tuple #[.string ⟨#[]⟩, .string ⟨#[]⟩, .int .i64 3]
  | some xs => match xs.getLast? with
    | none => .tuple #[.string ⟨#[]⟩, .string ⟨#[]⟩, .int .i64 1]
    | some x => .tuple #[.string (mk (pth xs.dropLast)), .string (mk x), .int .i64 0]
theorem pv_none {p : List UInt8} (h : Sp p = none) : pv p = .tuple #[.string ⟨#[]⟩, .string ⟨#[]⟩, .int .i64 3] := by unfold pv; rw [h]
theorem pv_root {p : List UInt8} (h : Sp p = some []) : pv p = .tuple #[.string ⟨#[]⟩, .string ⟨#[]⟩, .int .i64 1] := by unfold pv; rw [h]; rfl
theorem pv_some {p : List UInt8} {xs : List (List UInt8)} {x : List UInt8} (h : Sp p = some (xs ++ [x])) : pv p = .tuple #[.string (mk (pth xs)), .string (mk x), .int .i64 0] := by
  unfold pv; rw [h]; simp

theorem mks_snoc (xs : List (List UInt8)) (x : List UInt8) : mks (xs ++ [x]) = mks xs ++ [mk x] := by simp [mks]
theorem mks_len (xs : List (List UInt8)) : (mks xs).length = xs.length := by simp [mks]
theorem nth_snoc (xs : List ByteArray) (x : ByteArray) : nth (xs ++ [x]) xs.length = x := by simp [nth]
theorem take_init (xs : List ByteArray) (x : ByteArray) : (xs ++ [x]).take xs.length = xs := by simp

/-- of a path that may be: how many names, and how long each is -/
theorem Sp_small {p : List UInt8} {xs : List (List UInt8)} (h : Sp p = some xs) : xs.length ≤ 120 ∧ ∀ x ∈ mks xs, x.size ≤ 140737488351232 := by
  have hj := Jn_of_Sp h
  unfold Jn at hj
  split at hj
  · rename_i hc
    obtain ⟨hr, hl⟩ := hc
    have hn : ∀ x ∈ xs, rt x = true := by simpa using hr
    refine ⟨?_, ?_⟩
    · have : ∀ l : List (List UInt8), l.length ≤ (fl l).length := by
        intro l
        induction l with
        | nil => simp
        | cons y t ih => simp only [fl, List.flatMap_cons, List.length_append, List.length_cons] at ih ⊢; omega
      have := this xs
      omega
    · intro x hx
      simp only [mks, List.mem_map] at hx
      obtain ⟨l, hl, rfl⟩ := hx
      have := rt_len (hn l hl)
      rw [← ls_size, ls_mk]; omega
  · cases hj

set_option maxHeartbeats 1000000 in
theorem parent_any (p : ByteArray) (w : World) (hm : HM w) (hs : p.size ≤ maxLen) :
    Calls Tryd.prog 14 #[.string p] w fun e w' => e = .returned (pv (ls p)) ∧ Below w.heap.size w w' := by
  have C := nsplit_any p w hm hs
  cases hS : Sp (ls p) with
  | none =>
    rw [pv_none hS]
    rw [hS] at C
    have HC : Hid _ := C
    clear C hS hs
    go_enter Tryd.func14, Tryd.ntmps14
    go_wp2_with fail
    refine Calls.mono (Hid.out HC) ?_
    rintro e w1 ⟨rfl, hb⟩
    go_wp2
    go_ret3
    exact ⟨rfl, hb⟩
  | some ys =>
    obtain ⟨hlen, hz⟩ := Sp_small hS
    rcases List.eq_nil_or_concat ys with rfl | ⟨xs, x, rfl⟩
    · rw [pv_root hS]
      rw [hS] at C
      have HC : Hid _ := C
      clear C hS hs hlen hz
      go_enter Tryd.func14, Tryd.ntmps14
      go_wp2_with fail
      refine Calls.mono (Hid.out HC) ?_
      rintro e w1 ⟨a, c, rfl, _, _, hb⟩
      simp only [mks, List.map_nil, List.length_nil]
      go_wp2
      go_ret3
      exact ⟨rfl, hb⟩
    · rw [List.concat_eq_append] at hS hlen hz
      rw [pv_some hS]
      have HJ : Hid (Jn (lss (mks xs)) = some (pth xs)) := by
        show Jn (lss (mks xs)) = _
        rw [lss_mks]; exact Jn_init (Jn_of_Sp hS)
      rw [hS] at C
      have HC : Hid _ := C
      have HZ : Hid (∀ y ∈ mks xs, y.size ≤ 140737488351232) := fun y hy => hz y (by rw [mks_snoc]; exact List.mem_append_left _ hy)
      have hlen2 : (mks xs).length ≤ 119 := by rw [mks_len]; simp at hlen; omega
      clear C hS hs hlen hz
      go_enter Tryd.func14, Tryd.ntmps14
      go_wp2_with fail
      refine Calls.mono (Hid.out HC) ?_
      rintro e w1 ⟨a, c, rfl, hc, ht, hb⟩
      rw [mks_snoc] at hc ht ⊢
      obtain ⟨b, o, rfl, hbl, hcell⟩ := ht.resolve_left (by simp)
      have cl := hcell (mks xs).length (by simp)
      rw [nth_snoc] at cl
      have TA : Hid (∀ w2, Below w1.heap.size w1 w2 → w2.cell? ⟨b, o + (mks xs).length, none⟩ = some (.string (mk x))) := fun w2 h2 => (h2.cell (p := ⟨b, o + (mks xs).length, none⟩) hbl).trans cl
      have JO : Hid (Calls Tryd.prog 20 #[.slice (some ⟨b, o, none⟩) (mks xs).length c] w1 fun e w' => e = .returned (.tuple #[.string (mk (pth xs)), .int .i64 0]) ∧ Below w1.heap.size w1 w') := by
        have t2 := ht.take (mks xs).length
        rw [take_init] at t2
        refine (join_any _ c (mks xs) w1 t2 (by omega) (by rw [List.length_append] at hc; omega) HZ.out).mono fun e w' ⟨he, hw⟩ => ⟨by rw [he, HJ.out]; rfl, hw⟩
      simp only [List.length_append, List.length_singleton] at hc ⊢
      obtain ⟨n, hn⟩ : ∃ n, (mks xs).length = n := ⟨_, rfl⟩
      rw [hn] at hlen2 hc TA JO ⊢
      clear hcell cl ht hn
      have hne : (((n + 1 : Nat) : Int) == 0) = false := by simp; omega
      have hne' : ¬ ((n + 1 : Nat) : Int) = 0 := by omega
      have hsub : ((n + 1 : Nat) : Int) - 1 = (n : Int) := by omega
      obtain ⟨N, hN⟩ : ∃ N, n + 1 = N := ⟨_, rfl⟩
      rw [hN] at hc hne hne' hsub ⊢
      have hN1 : (n : Int) < (N : Int) := by omega
      have HN : Hid (n + 1 = N) := hN
      have hN2 : N ≤ 120 := by omega
      clear hN
      go_wp2_with fail
      refine Calls.mono (Hid.out JO) ?_
      rintro e w2 ⟨rfl, hb2⟩
      have cl := TA.out w2 hb2
      go_wp2
      go_quiet (fail)
      go_wp2
      go_ret3
      exact ⟨rfl, (below_chain hb hb2).trans ((below_drew w2 _).mono (Nat.le_trans hb.size hb2.size))⟩
set_option maxHeartbeats 1000000 in
theorem refParent_any (p : ByteArray) (w : World) (hs : p.size ≤ 1048576) :
    Calls Tryd.prog 15 #[.string p] w fun e w' => e = .returned (pv (ls p)) ∧ Below w.heap.size w w' := by
  have C := refSplit_any p w hs
  cases hS : Sp (ls p) with
  | none =>
    rw [pv_none hS]
    rw [hS] at C
    have HC : Hid _ := C
    clear C hS hs
    go_enter Tryd.func15, Tryd.ntmps15
    go_wp2_with fail
    refine Calls.mono (Hid.out HC) ?_
    rintro e w1 ⟨rfl, hb⟩
    go_wp2
    go_ret3
    exact ⟨rfl, hb⟩
  | some ys =>
    obtain ⟨hlen, hz⟩ := Sp_small hS
    rcases List.eq_nil_or_concat ys with rfl | ⟨xs, x, rfl⟩
    · rw [pv_root hS]
      rw [hS] at C
      have HC : Hid _ := C
      clear C hS hs hlen hz
      go_enter Tryd.func15, Tryd.ntmps15
      go_wp2_with fail
      refine Calls.mono (Hid.out HC) ?_
      rintro e w1 ⟨a, c, rfl, _, _, hb⟩
      simp only [mks, List.map_nil, List.length_nil]
      go_wp2
      go_ret3
      exact ⟨rfl, hb⟩
    · rw [List.concat_eq_append] at hS hlen hz
      rw [pv_some hS]
      have HJ : Hid (Jn (lss (mks xs)) = some (pth xs)) := by
        show Jn (lss (mks xs)) = _
        rw [lss_mks]; exact Jn_init (Jn_of_Sp hS)
      rw [hS] at C
      have HC : Hid _ := C
      have HZ : Hid (∀ y ∈ mks xs, y.size ≤ 140737488351232) := fun y hy => hz y (by rw [mks_snoc]; exact List.mem_append_left _ hy)
      have hlen2 : (mks xs).length ≤ 119 := by rw [mks_len]; simp at hlen; omega
      clear C hS hs hlen hz
      go_enter Tryd.func15, Tryd.ntmps15
      go_wp2_with fail
      refine Calls.mono (Hid.out HC) ?_
      rintro e w1 ⟨a, c, rfl, hc, ht, hb⟩
      rw [mks_snoc] at hc ht ⊢
      obtain ⟨b, o, rfl, hbl, hcell⟩ := ht.resolve_left (by simp)
      have cl := hcell (mks xs).length (by simp)
      rw [nth_snoc] at cl
      have TA : Hid (∀ w2, Below w1.heap.size w1 w2 → w2.cell? ⟨b, o + (mks xs).length, none⟩ = some (.string (mk x))) := fun w2 h2 => (h2.cell (p := ⟨b, o + (mks xs).length, none⟩) hbl).trans cl
      have JO : Hid (Calls Tryd.prog 21 #[.slice (some ⟨b, o, none⟩) (mks xs).length c] w1 fun e w' => e = .returned (.tuple #[.string (mk (pth xs)), .int .i64 0]) ∧ Below w1.heap.size w1 w') := by
        have t2 := ht.take (mks xs).length
        rw [take_init] at t2
        refine (refJoin_any _ c (mks xs) w1 t2 (by omega) HZ.out).mono fun e w' ⟨he, hw⟩ => ⟨by rw [he, HJ.out]; rfl, hw ▸ Below.refl _ _⟩
      simp only [List.length_append, List.length_singleton] at hc ⊢
      obtain ⟨n, hn⟩ : ∃ n, (mks xs).length = n := ⟨_, rfl⟩
      rw [hn] at hlen2 hc TA JO ⊢
      clear hcell cl ht hn
      have hne : (((n + 1 : Nat) : Int) == 0) = false := by simp; omega
      have hne' : ¬ ((n + 1 : Nat) : Int) = 0 := by omega
      have hsub : ((n + 1 : Nat) : Int) - 1 = (n : Int) := by omega
      obtain ⟨N, hN⟩ : ∃ N, n + 1 = N := ⟨_, rfl⟩
      rw [hN] at hc hne hne' hsub ⊢
      have hN1 : (n : Int) < (N : Int) := by omega
      have HN : Hid (n + 1 = N) := hN
      have hN2 : N ≤ 120 := by omega
      clear hN
      go_wp2_with fail
      refine Calls.mono (Hid.out JO) ?_
      rintro e w2 ⟨rfl, hb2⟩
      have cl := TA.out w2 hb2
      go_wp2
      go_quiet (fail)
      go_wp2
      go_ret3
      exact ⟨rfl, (below_chain hb hb2).trans ((below_drew w2 _).mono (Nat.le_trans hb.size hb2.size))⟩
end Go.Proofs.YtlpikfebbfcofaaDoor
