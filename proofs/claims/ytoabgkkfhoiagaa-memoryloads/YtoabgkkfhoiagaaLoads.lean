/- MemoryLoads: for every list of words and every number, a memory with words has just these, all sure, 4096 at most, and one of n words has n, all 0: the law returns true, and leaves its arguments as they were. No condition. -/
import Derived.Test.YtoabgkkfhoiagaaRows
import Derived.Test.YtoabgkkfhoiagaaFacts
import Derived.Lib.SliceRun
import Derived.Deep.RegionHeld3
import Derived.WalkKit
import Derived.ProofKit
import Derived.OpenShut
import Derived.ShutString
import Derived.ChangeOld
import Derived.Below
namespace Go.Proofs.Ytoabgkkfhoiagaa.memoryLoads
open Go.ChangeShapes Go.WideShapes Go.ChangeAt Go.RowKit
open Go.ChangeMaps (open_string shut_string)
set_option linter.unusedVariables false

theorem own : ownKnob Try.prog.godebug = none := by kernel_rfl
theorem laidOut : laidOutB Try.prog = true := by kernel_rfl

/-- A slice of words that came in. -/
def IsRow (k : IntKind) (w : World) (a : Option Addr) (len cap : Nat) (zs : List Int) : Prop :=
  (a = none ∧ len = 0 ∧ cap = 0 ∧ zs = []) ∨
  ∃ x, a = some x ∧ len ≤ cap ∧ cap ≤ maxLen ∧ zs.length = cap ∧ (∀ i, i < zs.length → w.cell? (x.add i) = some (.int k (zs.getD i 0))) ∧ ∀ n ∈ zs, (Lit.int k n).wf = true


set_option maxHeartbeats 1000000 in
set_option maxRecDepth 100000 in
theorem clone_some (x : Addr) (cap : Nat) (xs : List Int) (w : World) (hlen : xs.length ≤ 4096) (hc : ∀ i, i < xs.length → w.cell? (x.add i) = some (.int .u64 (xs.getD i 0))) :
    Calls Try.prog 43 #[.slice (some x) xs.length cap] w fun e w' => ∃ v, e = .returned v ∧ w'.ownsRow w.heap.size 32 1 v xs.length (xs.map (Value.int .u64)) ∧ Below w.heap.size w w' := by
  obtain ⟨i0, hi, hz0, hz1, hz2⟩ := info_parts Try.info32
  have hown0 : (w.alloc (.cells #[] 32)).ownsRow w.heap.size 32 1 (.slice (some ⟨w.heap.size, 0, none⟩) 0 0) 0 [] := World.ownsRow_made w #[] 0 (Nat.le_refl _) (Nat.zero_le _) rfl
  have hnews : ∀ (j : Nat) (u : Value), (xs.map (Value.int .u64))[j]? = some u → (w.alloc (.cells #[] 32)).cell? (x.add j) = some u := fun j u hj => by
    have hjl : j < xs.length := by
      have := (List.getElem?_eq_some_iff.1 hj).1
      simpa using this
    have h1 := hc j hjl
    have hlt := World.block_lt_of_cell? w _ h1
    rw [World.cell?_of_block (w := w) (Below.heap_alloc _ _ _ hlt), h1]
    simp [hjl] at hj
    rw [← hj]; simp [hjl]
  have hone : ∀ u ∈ xs.map (Value.int .u64), u.oneCell' = true := fun u hu => by
    obtain ⟨n, _, rfl⟩ := List.mem_map.1 hu
    rfl
  have q45 : ∀ (w : World) (a : Option Addr) (n c n' c' : Nat), (binOp .eql 45 (.slice a n c) (.slice none n' c')).run Try.prog w = .ok (.bool a.isNone) w := fun w a n c n' c' => Lib.run_eql_slice_nil w _ _ a n c n' c' Try.underlying45
  go_enter Try.func43, Try.ntmps43
  go_wp2_with (first
    | (at_builtin; refine wpList_append_own _ rfl _ _ 45 rfl w.heap.size 32 i0 (.int .u64 0) 1 8 Try.underlying45 hi hz0 hz1 hz2 rfl (by decide) _ 0 [] rfl hown0 x xs.length cap (xs.map (Value.int .u64)) rfl (by simp) hnews hone (by unfold maxLen; omega) (by omega) (by simp) ?_; intro v' w1 hrow hg hnil)
    | go_in)
  go_ret
  refine ⟨v', rfl, by simpa using hrow, ?_⟩
  exact ((Below.refl _ _).alloc (Nat.le_refl _) _).grown hg (by simp) (fun k hk => by cases hk; exact Nat.le_refl _)

set_option maxRecDepth 100000 in
theorem clone_nil (w : World) : Calls Try.prog 43 #[.slice none 0 0] w fun e w' => e = .returned (.slice none 0 0) ∧ w' = w := by
  have q45 : ∀ (w : World) (a : Option Addr) (n c n' c' : Nat), (binOp .eql 45 (.slice a n c) (.slice none n' c')).run Try.prog w = .ok (.bool a.isNone) w := fun w a n c n' c' => Lib.run_eql_slice_nil w _ _ a n c n' c' Try.underlying45
  go_enter Try.func43, Try.ntmps43
  go_wp2
  go_ret
  exact ⟨rfl, rfl⟩

theorem mem_of_row (w w1 : World) (va : Option Addr) (vc : Nat) (xs : List Int) (hrow : w1.ownsRow w.heap.size 32 1 (.slice va xs.length vc) xs.length (xs.map (Value.int .u64))) (hlen : xs.length ≤ 4096) (hw : ∀ v ∈ xs, (Lit.int .u64 v).wf = true) (hb : Below w.heap.size w w1) :
    ∃ L : Lay, L.mb = w1.heap.size + 2 ∧ MemIs (ofWorld w1 va xs.length vc) L (fresh xs) ∧ (∀ j ∈ L.blocks, w.heap.size ≤ j) ∧ Below w.heap.size w (ofWorld w1 va xs.length vc) := by
  have hs := hb.size
  have hb' := hb.trans ((ofWorld_below w1 va xs.length vc).mono hs)
  rcases hrow.2 with ⟨e, e0⟩ | ⟨g, c, cur, e, hg, _⟩
  · simp only [Value.slice.injEq] at e
    obtain ⟨rfl, _, rfl⟩ := e
    refine ⟨⟨w1.heap.size + 2, w1.heap.size + 2, 0, w1.heap.size, w1.heap.size + 1, none⟩, rfl, ofWorld_is w1 none 0 xs _ (ownsRow_base_a hrow (Nat.zero_le _)) (.inl ⟨rfl, rfl⟩) hlen hw, ?_, hb'⟩
    intro j hj
    simp only [Lay.blocks, List.mem_cons, List.not_mem_nil, or_false] at hj
    omega
  · simp only [Value.slice.injEq] at e
    obtain ⟨rfl, _, rfl⟩ := e
    refine ⟨⟨w1.heap.size + 2, g, _, w1.heap.size, w1.heap.size + 1, some ⟨g, 0, none⟩⟩, rfl, ofWorld_is w1 _ _ xs g (ownsRow_base_a hrow (Nat.zero_le _)) (.inr rfl) hlen hw, ?_, hb'⟩
    intro j hj
    simp only [Lay.blocks, List.mem_cons, List.not_mem_nil, or_false] at hj
    omega

/-- The words that Load takes. -/
def firstOf (zs : List Int) (len : Nat) : List Int := zs.take (min len 4096)
theorem firstOf_getD (zs : List Int) (len i : Nat) (h : i < min len 4096) : (firstOf zs len).getD i 0 = zs.getD i 0 := by
  unfold firstOf
  generalize min len 4096 = m at *
  simp [List.getD, h]

theorem load_any (a : Option Addr) (len cap : Nat) (zs : List Int) (w : World) (h : IsRow .u64 w a len cap zs) :
    Calls Try.prog 24 #[.slice a len cap] w fun e w' => ∃ L : Lay, e = .returned (.pointer (some ⟨L.mb, 0, none⟩)) ∧ MemIs w' L (fresh (firstOf zs len)) ∧ (∀ j ∈ L.blocks, w.heap.size ≤ j) ∧ Below w.heap.size w w' := by
  have hof := of_any
  rcases h with ⟨rfl, rfl, rfl, rfl⟩ | ⟨x, rfl, hlc, hcm, hzl, hcell, hwf⟩
  · go_enter Try.func24, Try.ntmps24
    go_wp2_with (first
      | (go_at_call 43; refine (clone_nil _).mono ?_; rintro e w1 ⟨rfl, hw⟩; obtain rfl := hw.symm)
      | (go_at_call 33; refine (hof _ _ _ _).mono ?_; rintro e w2 ⟨rfl, rfl⟩)
      | go_in)
    go_ret
    obtain ⟨L, e1, e2, e3, e4⟩ := mem_of_row w w none 0 [] (World.ownsRow_nil _ _ _ _) (by simp) (by simp) (Below.refl _ _)
    exact ⟨L, by rw [e1]; rfl, e2, e3, e4⟩
  · obtain ⟨k, hk⟩ : ∃ k : Nat, min (len : Int) 4096 = (k : Int) := ⟨(min (len : Int) 4096).toNat, by omega⟩
    have hk1 : min len 4096 = k := by omega
    have hx : (firstOf zs len).length = k := by unfold firstOf; simp; omega
    have hkc : k ≤ cap := by omega
    have hc' : ∀ i, i < (firstOf zs len).length → w.cell? (x.add i) = some (.int .u64 ((firstOf zs len).getD i 0)) := fun i hi => by
      rw [hcell i (by omega), firstOf_getD zs len i (by omega)]
    have hw' : ∀ v ∈ firstOf zs len, (Lit.int .u64 v).wf = true := fun v hv => hwf v (List.mem_of_mem_take hv)
    have hcl := clone_some x cap (firstOf zs len) w (by omega) hc'
    rw [hx] at hcl
    have HCL : Hid _ := hcl
    have HX : Hid ((firstOf zs len).length = k) := hx
    have hk4 : k ≤ 4096 := by omega
    clear hcl hc' hx hk1 hzl hcell hwf hlc
    go_enter Try.func24, Try.ntmps24
    go_wp2_with (first
      | (go_at_call 43; refine Calls.mono (Hid.out HCL) ?_; rintro e w1 ⟨v, rfl, hrow, hb⟩; obtain ⟨va, vc, rfl, _⟩ := ownsRow_form0 hrow)
      | (go_at_call 33; refine (hof _ _ _ _).mono ?_; rintro e w2 ⟨rfl, rfl⟩)
      | go_in)
    go_ret
    have hx := HX.out
    subst hx
    obtain ⟨L, e1, e2, e3, e4⟩ := mem_of_row w w1 va vc _ hrow hk4 hw' hb
    exact ⟨L, by rw [e1]; rfl, e2, e3, e4⟩

theorem fresh_read (k : Nat) (j : Int) : (fresh (List.replicate k 0)).read j = 0 := by
  unfold Mem.read
  split
  · show ((none : Option Int).getD ((List.replicate k (0 : Int)).getD j.toNat 0)) = 0
    rw [Option.getD_none]
    by_cases h : j.toNat < k
    · simp [h]
    · simp [h]
  · rfl

/-- What must stay while the last comparison is made. -/
structure St (w : World) (La Lb : Lay) (Ma Mb : Mem) (a : Option Addr) (im : List Int) (W : World) : Prop where
  ma : MemIs W La Ma
  mb : MemIs W Lb Mb
  r : RowIs .u64 W a im
  bel : Below w.heap.size w W

theorem St.drew {w : World} {La Lb : Lay} {Ma Mb : Mem} {a : Option Addr} {im : List Int} {W : World} (h : St w La Lb Ma Mb a im W) : St w La Lb Ma Mb a im W.drew :=
  ⟨h.ma.drew, h.mb.drew, h.r.same (fun B => ⟨rfl, rfl, rfl, Nat.le_refl _, fun _ _ => rfl⟩), h.bel.drew⟩
theorem St.below {w : World} {La Lb : Lay} {Ma Mb : Mem} {a : Option Addr} {im : List Int} {W W' : World} (h : St w La Lb Ma Mb a im W) (hb : Below W.heap.size W W') : St w La Lb Ma Mb a im W' :=
  ⟨h.ma.below hb h.ma.all_lt, h.mb.below hb h.mb.all_lt, h.r.below hb, h.bel.trans (hb.mono h.bel.size)⟩

theorem sameK (w : World) (a b : Option Addr) (ca cb k : Nat) (xs ys : List Int) (hx : RowIs .u64 w a xs) (hy : RowIs .u64 w b ys) (h1 : xs.length = k) (h2 : xs = ys) (hk : k ≤ 4096) :
    Calls Try.prog 20 #[.slice a k ca, .slice b k cb] w fun e w' => e = .returned (.bool true) ∧ ∀ B, Below B w w' := by
  subst h2
  have := same_any w a b ca cb xs xs hx hy (by omega)
  rw [h1, decide_eq_true rfl] at this
  exact this

theorem row_of (w : World) (a : Option Addr) (len cap : Nat) (zs : List Int) (h : IsRow .u64 w a len cap zs) : RowIs .u64 w a (firstOf zs len) := by
  rcases h with ⟨rfl, rfl, rfl, rfl⟩ | ⟨x, rfl, hlc, hcm, hzl, hcell, hwf⟩
  · exact .inl rfl
  · by_cases h0 : firstOf zs len = []
    · exact .inl h0
    · have hl : 0 < (firstOf zs len).length := List.length_pos_iff.2 h0
      have hl' : (firstOf zs len).length ≤ zs.length := by unfold firstOf; rw [List.length_take]; omega
      have e := spot_none (by simpa [Addr.add] using hcell 0 (by omega))
      refine .inr ⟨x.block, x.off, by rw [← e], fun i hi => ?_⟩
      have := hcell i (by omega)
      rw [e, add_none] at this
      have h3 : i < min len 4096 := by unfold firstOf at hi; rw [List.length_take] at hi; omega
      rw [this, firstOf_getD zs len i h3]

set_option maxHeartbeats 4000000 in
set_option maxRecDepth 100000 in
theorem walk (a0 : Option Addr) (len0 cap0 : Nat) (z0 : List Int) (a1 : Int) (w : World) (w0 : IsRow .u64 w a0 len0 cap0 z0) (w1 : (Lit.int .i64 a1).wf = true) :
    Calls Try.prog 4 #[.slice a0 len0 cap0, .int .i64 a1] w fun e w' => e = .returned (.bool true) ∧ Below w.heap.size w w' := by
  obtain ⟨kk, hkk⟩ : ∃ kk : Nat, min (max a1 0) 4096 = (kk : Int) := ⟨(min (max a1 0) 4096).toNat, by omega⟩
  have hkk4 : kk ≤ 4096 := by omega
  obtain ⟨k, hk⟩ : ∃ k : Nat, min (len0 : Int) 4096 = (k : Int) := ⟨(min (len0 : Int) 4096).toNat, by omega⟩
  have hk4 : k ≤ 4096 := by omega
  have hr0 := row_of w a0 len0 cap0 z0 w0
  have hcap : k ≤ cap0 ∧ (firstOf z0 len0).length = k ∧ (a0 = none → len0 = 0 ∧ cap0 = 0) := by
    rcases w0 with ⟨rfl, rfl, rfl, rfl⟩ | ⟨x, rfl, hlc, hcm, hzl, hcell, hwf⟩
    · refine ⟨by omega, ?_, fun _ => ⟨rfl, rfl⟩⟩
      unfold firstOf; simp; omega
    · refine ⟨by omega, ?_, fun e => by cases e⟩
      unfold firstOf; simp; omega
  go_enter Try.func4, Try.ntmps4
  go_wp2_with fail
  refine (lives_any _).mono ?_
  rintro e v1 ⟨rfl, b1⟩
  have hrow1 : IsRow .u64 v1 a0 len0 cap0 z0 := by
    rcases w0 with h | ⟨x, e, hlc, hcm, hzl, hcell, hwf⟩
    · exact .inl h
    · refine .inr ⟨x, e, hlc, hcm, hzl, fun i hi => ?_, hwf⟩
      have := hcell i hi
      rw [b1.cell (World.block_lt_of_cell? w _ this)]; exact this
  have hr1 := hr0.below b1
  go_wp2_with fail
  refine (load_any a0 len0 cap0 z0 _ hrow1).mono ?_
  rintro e v2 ⟨La, rfl, hA0, hLa, b2⟩
  have b2' := b1.trans (b2.mono b1.size)
  have hLa' : ∀ j ∈ La.blocks, w.heap.size ≤ j := fun j hj => Nat.le_trans b1.size (hLa j hj)
  have hr2 := hr1.below b2
  clear w0 hrow1
  go_wp2_with fail
  refine (new_any a1 kk _ hkk).mono ?_
  rintro e v3 ⟨Lb, rfl, hB0, hLb, b3⟩
  have b3' := b2'.trans (b3.mono b2'.size)
  have hA1 := hA0.below b3 hA0.all_lt
  have hr3 := hr2.below b3
  have hAlt := hA0.all_lt
  have dBA : ∀ j ∈ Lb.blocks, j ∉ La.blocks := fun j h1 h2 => by have := hAlt j h2; have := hLb j h1; omega
  clear hA0 hAlt
  generalize hxs : firstOf z0 len0 = xs at *
  go_wp2_with fail
  refine (crash_any La (fresh xs) _ [] _ hA1 (show (0 : Nat) < 1000000000 by decide) (keepIs_nil _ _) (by decide)).mono ?_
  rintro e v4 ⟨rfl, A4, o4⟩
  have b4 := below_only b3' o4 b3'.size hLa'
  have B4 := hB0.kept o4 dBA
  have r4 : RowIs .u64 v4 a0 xs := hr0.below b4
  have hI : ((fresh xs).crash []).image = xs := by rw [crash_image, crashTo_nil]; rfl
  have hIl : ((fresh xs).crash []).sure.length = k := by show (crashTo _ _ _).length = k; rw [crashTo_len]; exact hcap.2.1
  have hFk : (fresh (List.replicate kk 0)).keys = [] := keys_none _ (fun _ => rfl)
  have hFl : (fresh (List.replicate kk 0)).sure.length = kk := by simp [fresh]
  have hFr : ∀ j, (fresh (List.replicate kk 0)).read j = 0 := fresh_read kk
  have hFc : (fresh (List.replicate kk 0)).calls < 1000000000 := show (0 : Nat) < 1000000000 by decide
  have hcl : xs.length = k := hcap.2.1
  have HH : Hid (((fresh xs).crash []).image = xs ∧ (fresh (List.replicate kk 0)).keys = [] ∧ xs.length = k) := ⟨hI, hFk, hcl⟩
  have s4 : St w La Lb ((fresh xs).crash []) (fresh (List.replicate kk 0)) a0 xs v4 := ⟨A4, B4, r4, b4⟩
  have iA := fun W hW => image_any La ((fresh xs).crash []) W hW
  rw [hIl] at iA
  have sB := fun W hW => size_any Lb (fresh (List.replicate kk 0)) W hW
  rw [hFl] at sB
  obtain ⟨rr, hrr, hr1', hr2'⟩ : ∃ rr : Int, IntKind.i64.wrap ((kk : Int) - 1) = rr ∧ -2 ≤ rr ∧ rr ≤ 5000 := ⟨(kk : Int) - 1, by simp only [IntKind.wrap_i64]; omega, by omega, by omega⟩
  have rB := fun (W : World) (hW : MemIs W Lb (fresh (List.replicate kk 0))) => read_any Lb (fresh (List.replicate kk 0)) rr W hW (WalkArith.wf_i64 (by omega))
  rw [hFr] at rB
  have rC := fun (W : World) (hW : MemIs W Lb (fresh (List.replicate kk 0))) => read_any Lb (fresh (List.replicate kk 0)) (kk : Int) W hW (WalkArith.wf_i64 (by omega))
  rw [hFr] at rC
  have lB := fun (W : World) (hW : MemIs W Lb (fresh (List.replicate kk 0))) => loose_any Lb (fresh (List.replicate kk 0)) W hW hFc
  have IA : Hid _ := iA
  have SB : Hid _ := sB
  have RB : Hid _ := rB
  have RC : Hid _ := rC
  have LB : Hid _ := lB
  obtain ⟨hcap1, _, hcapn⟩ := hcap
  clear iA sB rB rC lB A4 B4 r4 b4 hA1 hB0 hI hIl hFk hFl hFr hFc hcl hr0 hr1 hr2 hr3 b1 b2 b3 b2' b3' o4 dBA w1
  generalize (fresh xs).crash [] = Ma at *
  generalize fresh (List.replicate kk 0) = Mb at *
  cases a0 with
  | none =>
    obtain ⟨rfl, rfl⟩ := hcapn rfl
    have hk0 : k = 0 := by omega
    subst hk0
    have hm0 : min (0 : Int) 4096 = 0 := by decide
    have hm1 : (min (0 : Int) 4096).toNat = 0 := by decide
    go_wp2
    go_region_held3 (fun _ : World => True) (trivial) (first
      | (go_at_call 21; refine Calls.mono (Hid.out IA _ ?_) ?_; exact s4.drew.ma; rintro e v5 ⟨rfl, row5, b5⟩; have s5 := s4.drew.below b5; have i5 := rowIs_of_owns row5; clear row5)
      | (go_at_call 20; refine Calls.mono (sameK _ _ _ _ _ 0 Ma.image xs i5 s5.r ?_ HH.out.1 (by omega)) ?_; rw [HH.out.1]; exact HH.out.2.2; rintro e v6 ⟨rfl, b6⟩; have s6 := s5.below (b6 _))
      | (go_at_call 23; refine Calls.mono (Hid.out SB _ ?_) ?_; exact s6.mb; rintro e v7 ⟨rfl, hw⟩; obtain rfl := hw.symm)
      | (go_at_call_of 26 (Value.int .i64 rr); refine Calls.mono (Hid.out RB _ ?_) ?_; exact s6.mb; rintro e v7 ⟨rfl, hw⟩; obtain rfl := hw.symm)
      | (go_at_call 26; refine Calls.mono (Hid.out RC _ ?_) ?_; exact s6.mb; rintro e v7 ⟨rfl, hw⟩; obtain rfl := hw.symm)
      | (go_at_call 18; refine Calls.mono (Hid.out LB _ ?_) ?_; exact s6.mb; rintro e v8 ⟨v, rfl, row8, _, b8⟩; obtain ⟨va8, vc8, rfl, _⟩ := ownsRow_form0 row8; rw [HH.out.2.1]; have bel8 := (s6.below b8).bel))
    all_goals
      go_wp2
      go_ret
      exact ⟨rfl, bel8⟩
  | some x =>
    go_wp2
    go_region_held3 (fun _ : World => True) (trivial) (first
      | (go_at_call 21; refine Calls.mono (Hid.out IA _ ?_) ?_; exact s4.drew.ma; rintro e v5 ⟨rfl, row5, b5⟩; have s5 := s4.drew.below b5; have i5 := rowIs_of_owns row5; clear row5)
      | (go_at_call 20; refine Calls.mono (sameK _ _ _ _ _ k Ma.image xs i5 s5.r ?_ HH.out.1 hk4) ?_; rw [HH.out.1]; exact HH.out.2.2; rintro e v6 ⟨rfl, b6⟩; have s6 := s5.below (b6 _))
      | (go_at_call 23; refine Calls.mono (Hid.out SB _ ?_) ?_; exact s6.mb; rintro e v7 ⟨rfl, hw⟩; obtain rfl := hw.symm)
      | (go_at_call_of 26 (Value.int .i64 rr); refine Calls.mono (Hid.out RB _ ?_) ?_; exact s6.mb; rintro e v7 ⟨rfl, hw⟩; obtain rfl := hw.symm)
      | (go_at_call 26; refine Calls.mono (Hid.out RC _ ?_) ?_; exact s6.mb; rintro e v7 ⟨rfl, hw⟩; obtain rfl := hw.symm)
      | (go_at_call 18; refine Calls.mono (Hid.out LB _ ?_) ?_; exact s6.mb; rintro e v8 ⟨v, rfl, row8, _, b8⟩; obtain ⟨va8, vc8, rfl, _⟩ := ownsRow_form0 row8; rw [HH.out.2.1]; have bel8 := (s6.below b8).bel))
    all_goals
      go_wp2
      go_ret
      exact ⟨rfl, bel8⟩

set_option maxRecDepth 100000 in
theorem lifted (os : Os) (started : os.Started) (H : Type) (enc : TypeId × Value → H) :
    ReturnsInHanded {} Try.checked os 4 .any (Rows.memoryLoadsSpec.pre6 enc Try.prog Try.f4 Rows.memoryLoadsRow.domain false) (Rows.memoryLoadsSpec.post enc Try.prog Try.f4 false true false false) := by
  refine returnsInHanded_of_change (C := Try.checked) own started (by kernel_rfl) Try.func4
    (ChangeSpec.witness6 (enc := enc) (C := Try.checked) false ⟨#[], #[.slice none 0 0, .int .i64 0], []⟩ 8 (by kernel_rfl) (by kernel_rfl) (by kernel_rfl) (by kernel_rfl)) ?_
  intro W base args ds gs before hval0 hW hcnd _
  have hval : ∀ (j : Nat) t v, Try.f4.params[j]? = some t → args[j]? = some v → Value.okWide Try.prog W .any base t v := hval0
  have hW' := hW
  obtain ⟨p, q, hA0, hV, rfl, hfz, hnd⟩ := hW
  have hA : DataW.TrodAll enc Try.prog W 0 (fun _ => true) true Try.f4.params.toList args.toList ds p := hA0
  rw [Try.params4] at hA hval
  obtain ⟨v0, vs0, d0, ds0, p0, q0, hargs, rfl, rfl, h0, r0⟩ := trodAll_cons hA
  obtain ⟨v1, vs1, d1, ds1, p1, q1, rfl, rfl, rfl, h1, r1⟩ := trodAll_cons r0
  obtain ⟨rfl, rfl, rfl⟩ := trodAll_nil r1
  obtain rfl : args = #[v0, v1] := by cases args; simp_all
  obtain ⟨rfl, rfl⟩ := trodVars_none hV
  obtain ⟨a0, len0, cap0, rfl⟩ := okWide_slice Try.underlying45 (hval 0 45 v0 rfl rfl)
  have k0 := h0
  have lt0 : ∀ x ∈ p0, x.block < W.heap.size := by obtain ⟨m, hm⟩ := k0; exact DataW.trod_lt m _ _ _ hm
  obtain ⟨z0, w0⟩ : ∃ zs, IsRow .u64 W a0 len0 cap0 zs := by
    obtain ⟨fuel, hf⟩ := h0
    rcases open_ints Try.underlying45 Try.underlying32 (by kernel_rfl) hf with ⟨hcs, _⟩ | ⟨x, l, c, zs, hcs, _, hl, hm, hz, _, hcell, hwz⟩
    · simp [Value.cells] at hcs
      obtain ⟨rfl, rfl, rfl⟩ := hcs
      exact ⟨[], .inl ⟨rfl, rfl, rfl, rfl⟩⟩
    · simp [Value.cells] at hcs
      obtain ⟨rfl, rfl, rfl⟩ := hcs
      exact ⟨zs, .inr ⟨_, rfl, hl, hm, by simpa using hz, hcell, hwz⟩⟩
  obtain ⟨a1, rfl, rfl, rfl, w1⟩ := open_int Try.underlying3 (hval 1 3 v1 rfl rfl) h1
  clear hA0 hval0
  refine (walk a0 len0 cap0 z0 a1 W w0 w1).mono fun e W' ⟨he, bel⟩ => ?_
  subst he
  exact ⟨_, rfl, _, _, _, [], _, [], hW', trodAll_mk1 (shut_bool Try.underlying4 _), (trodAll_cons_mk (Below.trod laidOut (by kernel_rfl) (of_decide_eq_true (by kernel_rfl)) k0 bel lt0) (trodAll_cons_mk (shut_int Try.underlying3 w1) trodAll_mk0)), rfl, bel.frame _, fun h => by cases h⟩

theorem over : Rows.memoryLoadsRow.holds Try.pinned (OpenSpec.ofChange Rows.memoryLoadsSpec) :=
  OpenClaim.holds_of_wide 4 Try.f4 rfl rfl rfl rfl rfl rfl rfl ⟨rfl, rfl, rfl, rfl, rfl⟩ rfl rfl rfl rfl rfl (by kernel_rfl) Try.func4 (by kernel_rfl)
    (of_decide_eq_true (by kernel_rfl)) (by unfold Func.isWrapper; first | (rw [if_pos (by decide +kernel)]; kernel_rfl) | (rw [if_neg (by decide +kernel)]; exact ⟨rfl, rfl⟩))
    (fun os started H enc _ => lifted os started H enc)

theorem proved : Rows.MemoryLoadsSaid := over
#print axioms proved
end Go.Proofs.Ytoabgkkfhoiagaa.memoryLoads
