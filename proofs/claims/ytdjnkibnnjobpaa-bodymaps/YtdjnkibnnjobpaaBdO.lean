/- Write, Cut and Read where they are refused, or there is nothing to be written. -/
import Derived.Test.YtdjnkibnnjobpaaBdN
namespace Go.Proofs.Ytdjnkibnnjobpaa
open Go.RowKit Go.Maps Go.ChangeMaps

set_option maxHeartbeats 2000000 in
set_option maxRecDepth 100000 in
theorem bwrite_neg (V : VLay) (S : Vw) (N : Nat) (L : Lay) (M : Mem) (node k l s v d0 d1 d2 d3 d4 m : Int) (at_ : Int) (data : ByteArray) (w : World) (h : On w V S N L M) (n0 : 0 ≤ node) (n1 : node < 24) (ha : at_ < 0) :
    Calls Try.prog 18 #[.pointer (some ⟨V.vb, 0, none⟩), .int .i64 node, .agg #[.int .i64 k, .int .i64 l, .int .i64 s, .int .u64 v, .int .i64 d0, .int .i64 d1, .int .i64 d2, .int .i64 d3, .int .i64 d4, .int .i64 m], .int .i64 at_, .string data] w fun e w' => e = .returned (.tuple #[.agg #[.int .i64 0, .int .i64 0, .int .i64 0, .int .u64 0, .int .i64 0, .int .i64 0, .int .i64 0, .int .i64 0, .int .i64 0, .int .i64 0], .int .i64 1]) ∧ Below w.heap.size w w' := by
  have HR : Hid (∀ w1, Below w.heap.size w w1 → Calls Try.prog 33 #[.pointer (some ⟨V.vb, 0, none⟩), .int .i64 node] w1 fun e w' => e = .returned (.bool false) ∧ Below w1.heap.size w1 w') := fun w1 hb => refused_no V S N L M node w1 (h.later hb) n0 n1
  clear h
  go_enter Try.func18, Try.ntmps18
  go_wp2_with fail
  obtain ⟨X, hX, HXS, HXB, HC, HZ⟩ := two_cards w k l s v d0 d1 d2 d3 d4 m
  rw [hX]
  clear hX
  refine Calls.mono (HR.out _ HXB.out) ?_
  rintro e w1 ⟨rfl, hb1⟩
  have HB1 : Hid (Below w.heap.size w w1) := HXB.out.trans (hb1.mono (by have := HXS.out; omega))
  have HC1 : Hid (CardAt w1 w.heap.size k l s v d0 d1 d2 d3 d4 m) := HC.out.later hb1
  have HZ1 : Hid (CardAt w1 (w.heap.size + 1) 0 0 0 0 0 0 0 0 0 0) := HZ.out.later hb1
  clear hb1
  obtain ⟨z0, z1, z2, z3, z4, z5, z6, z7, z8, z9⟩ := HZ1.out.ten
  have zf := HZ1.out.frozen
  go_wp2
  refine bodyPost_ret (v := .tuple #[.agg #[.int .i64 0, .int .i64 0, .int .i64 0, .int .u64 0, .int .i64 0, .int .i64 0, .int .i64 0, .int .i64 0, .int .i64 0, .int .i64 0], .int .i64 1]) (by simp [results, Try.results18, go_sem, z0, z1, z2, z3, z4, z5, z6, z7, z8, z9]) rfl ⟨rfl, ?_⟩
  exact ((((((((((HB1.out.setCell (p := ⟨w.heap.size + 1, 0, none⟩) (by simp) _).setCell (p := ⟨w.heap.size + 1, 1, none⟩) (by simp) _).setCell (p := ⟨w.heap.size + 1, 2, none⟩) (by simp) _).setCell (p := ⟨w.heap.size + 1, 3, none⟩) (by simp) _).setCell (p := ⟨w.heap.size + 1, 4, none⟩) (by simp) _).setCell (p := ⟨w.heap.size + 1, 5, none⟩) (by simp) _).setCell (p := ⟨w.heap.size + 1, 6, none⟩) (by simp) _).setCell (p := ⟨w.heap.size + 1, 7, none⟩) (by simp) _).setCell (p := ⟨w.heap.size + 1, 8, none⟩) (by simp) _).setCell (p := ⟨w.heap.size + 1, 9, none⟩) (by simp) _)
set_option maxHeartbeats 2000000 in
set_option maxRecDepth 100000 in
theorem bwrite_long (V : VLay) (S : Vw) (N : Nat) (L : Lay) (M : Mem) (node k l s v d0 d1 d2 d3 d4 m : Int) (at_ : Int) (data : ByteArray) (w : World) (h : On w V S N L M) (n0 : 0 ≤ node) (n1 : node < 24) (ha : 0 ≤ at_) (hd : 400 < data.size) :
    Calls Try.prog 18 #[.pointer (some ⟨V.vb, 0, none⟩), .int .i64 node, .agg #[.int .i64 k, .int .i64 l, .int .i64 s, .int .u64 v, .int .i64 d0, .int .i64 d1, .int .i64 d2, .int .i64 d3, .int .i64 d4, .int .i64 m], .int .i64 at_, .string data] w fun e w' => e = .returned (.tuple #[.agg #[.int .i64 0, .int .i64 0, .int .i64 0, .int .u64 0, .int .i64 0, .int .i64 0, .int .i64 0, .int .i64 0, .int .i64 0, .int .i64 0], .int .i64 1]) ∧ Below w.heap.size w w' := by
  have HR : Hid (∀ w1, Below w.heap.size w w1 → Calls Try.prog 33 #[.pointer (some ⟨V.vb, 0, none⟩), .int .i64 node] w1 fun e w' => e = .returned (.bool false) ∧ Below w1.heap.size w1 w') := fun w1 hb => refused_no V S N L M node w1 (h.later hb) n0 n1
  have hd4 : (400 : Int) < (data.size : Int) := by omega
  have ha4 : ¬ at_ < 0 := by omega
  clear h
  go_enter Try.func18, Try.ntmps18
  go_wp2_with fail
  obtain ⟨X, hX, HXS, HXB, HC, HZ⟩ := two_cards w k l s v d0 d1 d2 d3 d4 m
  rw [hX]
  clear hX
  refine Calls.mono (HR.out _ HXB.out) ?_
  rintro e w1 ⟨rfl, hb1⟩
  have HB1 : Hid (Below w.heap.size w w1) := HXB.out.trans (hb1.mono (by have := HXS.out; omega))
  have HC1 : Hid (CardAt w1 w.heap.size k l s v d0 d1 d2 d3 d4 m) := HC.out.later hb1
  have HZ1 : Hid (CardAt w1 (w.heap.size + 1) 0 0 0 0 0 0 0 0 0 0) := HZ.out.later hb1
  clear hb1
  obtain ⟨z0, z1, z2, z3, z4, z5, z6, z7, z8, z9⟩ := HZ1.out.ten
  have zf := HZ1.out.frozen
  go_wp2
  refine bodyPost_ret (v := .tuple #[.agg #[.int .i64 0, .int .i64 0, .int .i64 0, .int .u64 0, .int .i64 0, .int .i64 0, .int .i64 0, .int .i64 0, .int .i64 0, .int .i64 0], .int .i64 1]) (by simp [results, Try.results18, go_sem, z0, z1, z2, z3, z4, z5, z6, z7, z8, z9]) rfl ⟨rfl, ?_⟩
  exact ((((((((((HB1.out.setCell (p := ⟨w.heap.size + 1, 0, none⟩) (by simp) _).setCell (p := ⟨w.heap.size + 1, 1, none⟩) (by simp) _).setCell (p := ⟨w.heap.size + 1, 2, none⟩) (by simp) _).setCell (p := ⟨w.heap.size + 1, 3, none⟩) (by simp) _).setCell (p := ⟨w.heap.size + 1, 4, none⟩) (by simp) _).setCell (p := ⟨w.heap.size + 1, 5, none⟩) (by simp) _).setCell (p := ⟨w.heap.size + 1, 6, none⟩) (by simp) _).setCell (p := ⟨w.heap.size + 1, 7, none⟩) (by simp) _).setCell (p := ⟨w.heap.size + 1, 8, none⟩) (by simp) _).setCell (p := ⟨w.heap.size + 1, 9, none⟩) (by simp) _)
set_option maxHeartbeats 2000000 in
set_option maxRecDepth 100000 in
theorem bwrite_far (V : VLay) (S : Vw) (N : Nat) (L : Lay) (M : Mem) (node k l s v d0 d1 d2 d3 d4 m : Int) (at_ : Int) (data : ByteArray) (w : World) (h : On w V S N L M) (n0 : 0 ≤ node) (n1 : node < 24) (ha : 0 ≤ at_) (hd0 : 0 < data.size) (hd : data.size ≤ 400) (hE : 2688 - (data.size : Int) < at_) :
    Calls Try.prog 18 #[.pointer (some ⟨V.vb, 0, none⟩), .int .i64 node, .agg #[.int .i64 k, .int .i64 l, .int .i64 s, .int .u64 v, .int .i64 d0, .int .i64 d1, .int .i64 d2, .int .i64 d3, .int .i64 d4, .int .i64 m], .int .i64 at_, .string data] w fun e w' => e = .returned (.tuple #[.agg #[.int .i64 0, .int .i64 0, .int .i64 0, .int .u64 0, .int .i64 0, .int .i64 0, .int .i64 0, .int .i64 0, .int .i64 0, .int .i64 0], .int .i64 10]) ∧ Below w.heap.size w w' := by
  have HR : Hid (∀ w1, Below w.heap.size w w1 → Calls Try.prog 33 #[.pointer (some ⟨V.vb, 0, none⟩), .int .i64 node] w1 fun e w' => e = .returned (.bool false) ∧ Below w1.heap.size w1 w') := fun w1 hb => refused_no V S N L M node w1 (h.later hb) n0 n1
  have hdie : data.toList.isEmpty = false := by simpa using not_nil hd0
  have hdne : ¬ data.toList = [] := not_nil hd0
  have hd4 : ¬ (400 : Int) < (data.size : Int) := by omega
  have ha4 : ¬ at_ < 0 := by omega
  clear h
  go_enter Try.func18, Try.ntmps18
  go_wp2_with fail
  obtain ⟨X, hX, HXS, HXB, HC, HZ⟩ := two_cards w k l s v d0 d1 d2 d3 d4 m
  rw [hX]
  clear hX
  refine Calls.mono (HR.out _ HXB.out) ?_
  rintro e w1 ⟨rfl, hb1⟩
  have HB1 : Hid (Below w.heap.size w w1) := HXB.out.trans (hb1.mono (by have := HXS.out; omega))
  have HC1 : Hid (CardAt w1 w.heap.size k l s v d0 d1 d2 d3 d4 m) := HC.out.later hb1
  have HZ1 : Hid (CardAt w1 (w.heap.size + 1) 0 0 0 0 0 0 0 0 0 0) := HZ.out.later hb1
  clear hb1
  obtain ⟨c0, c1, c2, c3, c4, c5, c6, c7, c8, c9⟩ := HC1.out.ten
  obtain ⟨z0, z1, z2, z3, z4, z5, z6, z7, z8, z9⟩ := HZ1.out.ten
  have zf := HZ1.out.frozen
  go_wp2
  refine bodyPost_ret (v := .tuple #[.agg #[.int .i64 0, .int .i64 0, .int .i64 0, .int .u64 0, .int .i64 0, .int .i64 0, .int .i64 0, .int .i64 0, .int .i64 0, .int .i64 0], .int .i64 10]) (by simp [results, Try.results18, go_sem, z0, z1, z2, z3, z4, z5, z6, z7, z8, z9]) rfl ⟨rfl, ?_⟩
  exact ((((((((((HB1.out.setCell (p := ⟨w.heap.size + 1, 0, none⟩) (by simp) _).setCell (p := ⟨w.heap.size + 1, 1, none⟩) (by simp) _).setCell (p := ⟨w.heap.size + 1, 2, none⟩) (by simp) _).setCell (p := ⟨w.heap.size + 1, 3, none⟩) (by simp) _).setCell (p := ⟨w.heap.size + 1, 4, none⟩) (by simp) _).setCell (p := ⟨w.heap.size + 1, 5, none⟩) (by simp) _).setCell (p := ⟨w.heap.size + 1, 6, none⟩) (by simp) _).setCell (p := ⟨w.heap.size + 1, 7, none⟩) (by simp) _).setCell (p := ⟨w.heap.size + 1, 8, none⟩) (by simp) _).setCell (p := ⟨w.heap.size + 1, 9, none⟩) (by simp) _)
set_option maxHeartbeats 2000000 in
set_option maxRecDepth 100000 in
theorem bcut_neg (V : VLay) (S : Vw) (N : Nat) (L : Lay) (M : Mem) (node k l s v d0 d1 d2 d3 d4 m : Int) (size : Int) (w : World) (h : On w V S N L M) (n0 : 0 ≤ node) (n1 : node < 24) (ha : size < 0) :
    Calls Try.prog 19 #[.pointer (some ⟨V.vb, 0, none⟩), .int .i64 node, .agg #[.int .i64 k, .int .i64 l, .int .i64 s, .int .u64 v, .int .i64 d0, .int .i64 d1, .int .i64 d2, .int .i64 d3, .int .i64 d4, .int .i64 m], .int .i64 size] w fun e w' => e = .returned (.tuple #[.agg #[.int .i64 0, .int .i64 0, .int .i64 0, .int .u64 0, .int .i64 0, .int .i64 0, .int .i64 0, .int .i64 0, .int .i64 0, .int .i64 0], .int .i64 1]) ∧ Below w.heap.size w w' := by
  have HR : Hid (∀ w1, Below w.heap.size w w1 → Calls Try.prog 33 #[.pointer (some ⟨V.vb, 0, none⟩), .int .i64 node] w1 fun e w' => e = .returned (.bool false) ∧ Below w1.heap.size w1 w') := fun w1 hb => refused_no V S N L M node w1 (h.later hb) n0 n1
  clear h
  go_enter Try.func19, Try.ntmps19
  go_wp2_with fail
  obtain ⟨X, hX, HXS, HXB, HC, HZ⟩ := two_cards w k l s v d0 d1 d2 d3 d4 m
  rw [hX]
  clear hX
  refine Calls.mono (HR.out _ HXB.out) ?_
  rintro e w1 ⟨rfl, hb1⟩
  have HB1 : Hid (Below w.heap.size w w1) := HXB.out.trans (hb1.mono (by have := HXS.out; omega))
  have HC1 : Hid (CardAt w1 w.heap.size k l s v d0 d1 d2 d3 d4 m) := HC.out.later hb1
  have HZ1 : Hid (CardAt w1 (w.heap.size + 1) 0 0 0 0 0 0 0 0 0 0) := HZ.out.later hb1
  clear hb1
  obtain ⟨z0, z1, z2, z3, z4, z5, z6, z7, z8, z9⟩ := HZ1.out.ten
  have zf := HZ1.out.frozen
  go_wp2
  refine bodyPost_ret (v := .tuple #[.agg #[.int .i64 0, .int .i64 0, .int .i64 0, .int .u64 0, .int .i64 0, .int .i64 0, .int .i64 0, .int .i64 0, .int .i64 0, .int .i64 0], .int .i64 1]) (by simp [results, Try.results19, go_sem, z0, z1, z2, z3, z4, z5, z6, z7, z8, z9]) rfl ⟨rfl, ?_⟩
  exact ((((((((((HB1.out.setCell (p := ⟨w.heap.size + 1, 0, none⟩) (by simp) _).setCell (p := ⟨w.heap.size + 1, 1, none⟩) (by simp) _).setCell (p := ⟨w.heap.size + 1, 2, none⟩) (by simp) _).setCell (p := ⟨w.heap.size + 1, 3, none⟩) (by simp) _).setCell (p := ⟨w.heap.size + 1, 4, none⟩) (by simp) _).setCell (p := ⟨w.heap.size + 1, 5, none⟩) (by simp) _).setCell (p := ⟨w.heap.size + 1, 6, none⟩) (by simp) _).setCell (p := ⟨w.heap.size + 1, 7, none⟩) (by simp) _).setCell (p := ⟨w.heap.size + 1, 8, none⟩) (by simp) _).setCell (p := ⟨w.heap.size + 1, 9, none⟩) (by simp) _)
set_option maxHeartbeats 2000000 in
set_option maxRecDepth 100000 in
theorem bcut_far (V : VLay) (S : Vw) (N : Nat) (L : Lay) (M : Mem) (node k l s v d0 d1 d2 d3 d4 m : Int) (size : Int) (w : World) (h : On w V S N L M) (n0 : 0 ≤ node) (n1 : node < 24) (ha : 2688 < size) :
    Calls Try.prog 19 #[.pointer (some ⟨V.vb, 0, none⟩), .int .i64 node, .agg #[.int .i64 k, .int .i64 l, .int .i64 s, .int .u64 v, .int .i64 d0, .int .i64 d1, .int .i64 d2, .int .i64 d3, .int .i64 d4, .int .i64 m], .int .i64 size] w fun e w' => e = .returned (.tuple #[.agg #[.int .i64 0, .int .i64 0, .int .i64 0, .int .u64 0, .int .i64 0, .int .i64 0, .int .i64 0, .int .i64 0, .int .i64 0, .int .i64 0], .int .i64 10]) ∧ Below w.heap.size w w' := by
  have HR : Hid (∀ w1, Below w.heap.size w w1 → Calls Try.prog 33 #[.pointer (some ⟨V.vb, 0, none⟩), .int .i64 node] w1 fun e w' => e = .returned (.bool false) ∧ Below w1.heap.size w1 w') := fun w1 hb => refused_no V S N L M node w1 (h.later hb) n0 n1
  have ha4 : ¬ size < 0 := by omega
  clear h
  go_enter Try.func19, Try.ntmps19
  go_wp2_with fail
  obtain ⟨X, hX, HXS, HXB, HC, HZ⟩ := two_cards w k l s v d0 d1 d2 d3 d4 m
  rw [hX]
  clear hX
  refine Calls.mono (HR.out _ HXB.out) ?_
  rintro e w1 ⟨rfl, hb1⟩
  have HB1 : Hid (Below w.heap.size w w1) := HXB.out.trans (hb1.mono (by have := HXS.out; omega))
  have HC1 : Hid (CardAt w1 w.heap.size k l s v d0 d1 d2 d3 d4 m) := HC.out.later hb1
  have HZ1 : Hid (CardAt w1 (w.heap.size + 1) 0 0 0 0 0 0 0 0 0 0) := HZ.out.later hb1
  clear hb1
  obtain ⟨z0, z1, z2, z3, z4, z5, z6, z7, z8, z9⟩ := HZ1.out.ten
  have zf := HZ1.out.frozen
  go_wp2
  refine bodyPost_ret (v := .tuple #[.agg #[.int .i64 0, .int .i64 0, .int .i64 0, .int .u64 0, .int .i64 0, .int .i64 0, .int .i64 0, .int .i64 0, .int .i64 0, .int .i64 0], .int .i64 10]) (by simp [results, Try.results19, go_sem, z0, z1, z2, z3, z4, z5, z6, z7, z8, z9]) rfl ⟨rfl, ?_⟩
  exact ((((((((((HB1.out.setCell (p := ⟨w.heap.size + 1, 0, none⟩) (by simp) _).setCell (p := ⟨w.heap.size + 1, 1, none⟩) (by simp) _).setCell (p := ⟨w.heap.size + 1, 2, none⟩) (by simp) _).setCell (p := ⟨w.heap.size + 1, 3, none⟩) (by simp) _).setCell (p := ⟨w.heap.size + 1, 4, none⟩) (by simp) _).setCell (p := ⟨w.heap.size + 1, 5, none⟩) (by simp) _).setCell (p := ⟨w.heap.size + 1, 6, none⟩) (by simp) _).setCell (p := ⟨w.heap.size + 1, 7, none⟩) (by simp) _).setCell (p := ⟨w.heap.size + 1, 8, none⟩) (by simp) _).setCell (p := ⟨w.heap.size + 1, 9, none⟩) (by simp) _)
set_option maxHeartbeats 2000000 in
set_option maxRecDepth 100000 in
theorem bwrite_none (V : VLay) (S : Vw) (N : Nat) (L : Lay) (M : Mem) (node k l s v d0 d1 d2 d3 d4 m : Int) (at_ : Int) (data : ByteArray) (w : World) (h : On w V S N L M) (n0 : 0 ≤ node) (n1 : node < 24) (hF : FileIs (S.word M) node d0 d1 d2 d3 d4 m) (ha : 0 ≤ at_) (hd : data.size = 0) :
    Calls Try.prog 18 #[.pointer (some ⟨V.vb, 0, none⟩), .int .i64 node, .agg #[.int .i64 k, .int .i64 l, .int .i64 s, .int .u64 v, .int .i64 d0, .int .i64 d1, .int .i64 d2, .int .i64 d3, .int .i64 d4, .int .i64 m], .int .i64 at_, .string data] w fun e w' => e = .returned (.tuple #[.agg #[.int .i64 k, .int .i64 l, .int .i64 s, .int .u64 v, .int .i64 d0, .int .i64 d1, .int .i64 d2, .int .i64 d3, .int .i64 d4, .int .i64 m], .int .i64 0]) ∧ Below w.heap.size w w' := by
  have HR : Hid (∀ w1, Below w.heap.size w w1 → Calls Try.prog 33 #[.pointer (some ⟨V.vb, 0, none⟩), .int .i64 node] w1 fun e w' => e = .returned (.bool false) ∧ Below w1.heap.size w1 w') := fun w1 hb => refused_no V S N L M node w1 (h.later hb) n0 n1
  have hmr := hF.1.mrng
  obtain ⟨m0, m1⟩ := hmr
  have HM : Hid (∀ w1, Below w.heap.size w w1 → Calls Try.prog 11 #[.pointer (some ⟨V.vb, 0, none⟩), .agg #[.int .i64 k, .int .i64 l, .int .i64 s, .int .u64 v, .int .i64 d0, .int .i64 d1, .int .i64 d2, .int .i64 d3, .int .i64 d4, .int .i64 m]] w1 fun e w' => (∃ g, e = .returned (.tuple #[.slice (some ⟨g, 0, none⟩) 21 21, .int .i64 0])) ∧ Below w1.heap.size w1 w') := fun w1 hb => by
    refine (map_any V S N L M k l s v d0 d1 d2 d3 d4 m w1 (h.later hb) m0 m1 true ⟨fun _ => hF.may, fun _ => rfl⟩).mono ?_
    rintro e w' ⟨h1, h2⟩
    rcases h1 with ⟨_, g, _, h1, _⟩ | ⟨h1, _⟩
    · exact ⟨⟨g, h1⟩, h2⟩
    · cases h1
  have hdnil : data.toList = [] := by
    rw [ByteArray.toList_eq]
    have h3 : data.data.toList.length = 0 := by rw [Array.length_toList]; exact hd
    exact List.length_eq_zero_iff.1 h3
  have hdie : data.toList.isEmpty = true := by simpa using hdnil
  have ha4 : ¬ at_ < 0 := by omega
  have hd4 : ¬ (400 : Int) < (data.size : Int) := by omega
  clear h hF
  go_enter Try.func18, Try.ntmps18
  go_wp2_with fail
  obtain ⟨X, hX, HXS, HXB, HC, HZ⟩ := two_cards w k l s v d0 d1 d2 d3 d4 m
  rw [hX]
  clear hX
  refine Calls.mono (HR.out _ HXB.out) ?_
  rintro e w1 ⟨rfl, hb1⟩
  have HB1 : Hid (Below w.heap.size w w1) := HXB.out.trans (hb1.mono (by have := HXS.out; omega))
  have HC1 : Hid (CardAt w1 w.heap.size k l s v d0 d1 d2 d3 d4 m) := HC.out.later hb1
  have HZ1 : Hid (CardAt w1 (w.heap.size + 1) 0 0 0 0 0 0 0 0 0 0) := HZ.out.later hb1
  clear hb1
  obtain ⟨c0, c1, c2, c3, c4, c5, c6, c7, c8, c9⟩ := HC1.out.ten
  go_wp2_with fail
  refine Calls.mono (HM.out _ HB1.out) ?_
  rintro e w2 ⟨⟨g, rfl⟩, hb2⟩
  have HB2 : Hid (Below w.heap.size w w2) := HB1.out.trans (hb2.mono HB1.out.size)
  have HC2 : Hid (CardAt w2 w.heap.size k l s v d0 d1 d2 d3 d4 m) := HC1.out.later hb2
  have HZ2 : Hid (CardAt w2 (w.heap.size + 1) 0 0 0 0 0 0 0 0 0 0) := HZ1.out.later hb2
  clear c0 c1 c2 c3 c4 c5 c6 c7 c8 c9 hb2
  obtain ⟨c0, c1, c2, c3, c4, c5, c6, c7, c8, c9⟩ := HC2.out.ten
  obtain ⟨z0, z1, z2, z3, z4, z5, z6, z7, z8, z9⟩ := HZ2.out.ten
  have zf := HZ2.out.frozen
  go_wp2
  refine bodyPost_ret (v := .tuple #[.agg #[.int .i64 k, .int .i64 l, .int .i64 s, .int .u64 v, .int .i64 d0, .int .i64 d1, .int .i64 d2, .int .i64 d3, .int .i64 d4, .int .i64 m], .int .i64 0]) (by simp [results, Try.results18, go_sem, z0, z1, z2, z3, z4, z5, z6, z7, z8, z9]) rfl ⟨rfl, ?_⟩
  exact ((((((((((HB2.out.setCell (p := ⟨w.heap.size + 1, 0, none⟩) (by simp) _).setCell (p := ⟨w.heap.size + 1, 1, none⟩) (by simp) _).setCell (p := ⟨w.heap.size + 1, 2, none⟩) (by simp) _).setCell (p := ⟨w.heap.size + 1, 3, none⟩) (by simp) _).setCell (p := ⟨w.heap.size + 1, 4, none⟩) (by simp) _).setCell (p := ⟨w.heap.size + 1, 5, none⟩) (by simp) _).setCell (p := ⟨w.heap.size + 1, 6, none⟩) (by simp) _).setCell (p := ⟨w.heap.size + 1, 7, none⟩) (by simp) _).setCell (p := ⟨w.heap.size + 1, 8, none⟩) (by simp) _).setCell (p := ⟨w.heap.size + 1, 9, none⟩) (by simp) _)
set_option maxHeartbeats 2000000 in
set_option maxRecDepth 100000 in
theorem bread_arg (V : VLay) (k l s v d0 d1 d2 d3 d4 m at_ n : Int) (w : World) (ha : at_ < 0 ∨ n < 0 ∨ 4096 < n) :
    Calls Try.prog 17 #[.pointer (some ⟨V.vb, 0, none⟩), .agg #[.int .i64 k, .int .i64 l, .int .i64 s, .int .u64 v, .int .i64 d0, .int .i64 d1, .int .i64 d2, .int .i64 d3, .int .i64 d4, .int .i64 m], .int .i64 at_, .int .i64 n] w fun e w' => e = .returned (.tuple #[.string ⟨#[]⟩, .int .i64 1]) ∧ Below w.heap.size w w' := by
  have hb : (decide (at_ < 0) || decide (n < 0) || decide (4096 < n)) = true := by
    simp only [Bool.or_eq_true, decide_eq_true_eq]
    omega
  have HB : Hid (∀ o : Obj, Below w.heap.size w (w.alloc o)) := fun o => (Below.refl _ _).alloc (Nat.le_refl _) _
  by_cases a0 : at_ < 0
  · clear hb ha
    go_enter Try.func17, Try.ntmps17
    go_wp2
    go_ret2
    exact ⟨rfl, HB.out _⟩
  · by_cases b0 : n < 0
    · clear hb ha
      go_enter Try.func17, Try.ntmps17
      go_wp2
      go_ret2
      exact ⟨rfl, HB.out _⟩
    · have c0 : 4096 < n := by omega
      clear hb ha
      go_enter Try.func17, Try.ntmps17
      go_wp2
      go_ret2
      exact ⟨rfl, HB.out _⟩

end Go.Proofs.Ytdjnkibnnjobpaa
