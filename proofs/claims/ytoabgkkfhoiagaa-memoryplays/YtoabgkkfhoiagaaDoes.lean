/- A step of a script, done to a memory, or to none. -/
import Derived.Test.YtoabgkkfhoiagaaLives
namespace Go.Proofs.Ytoabgkkfhoiagaa
open Go.RowKit Go.Maps Go.ChangeMaps

/-- A step. -/
structure Step where
  kind : Int
  at_ : Int
  v : Int
  keep : List Bool

/-- What a step is: 0 to 5. -/
def Step.k (o : Step) : Int := wrap64 ((IntKind.u64.wrap o.kind).tmod 6)

theorem Step.k_cases (o : Step) : o.k = 0 ∨ o.k = 1 ∨ o.k = 2 ∨ o.k = 3 ∨ o.k = 4 ∨ o.k = 5 := by
  have h0 : 0 ≤ IntKind.u64.wrap o.kind := by simp only [IntKind.wrap_u64]; omega
  have h1 : (IntKind.u64.wrap o.kind).tmod 6 = (IntKind.u64.wrap o.kind) % 6 := Int.tmod_eq_emod_of_nonneg h0
  unfold Step.k
  rw [h1]
  unfold wrap64
  omega

structure Step.Ok (o : Step) : Prop where
  kind : (Lit.int .i64 o.kind).wf = true
  at_ : (Lit.int .i64 o.at_).wf = true
  v : (Lit.int .u64 o.v).wf = true
  keep : o.keep.length ≤ 9223372036854775807

/-- A step as a value, its bools at kv. -/
def Step.val (o : Step) (kv : Value) : Value := .agg #[.int .i64 o.kind, .int .i64 o.at_, .int .u64 o.v, kv]

theorem kind_any (o : Step) (kv : Value) (w : World) :
    Calls Try.prog 27 #[.agg #[.int .i64 o.kind, .int .i64 o.at_, .int .u64 o.v, kv]] w fun e w' => e = .returned (.int .i64 o.k) ∧ Below w.heap.size w w' := by
  go_enter Try.func27, Try.ntmps27
  go_wp2
  go_ret
  exact ⟨rfl, (Below.refl _ _).alloc (Nat.le_refl _) _⟩

/-- What a step answers. -/
def Mem.does (M : Mem) (o : Step) : Int := if o.k = 0 ∨ o.k = 1 then M.errAt o.at_ else if o.k = 2 then M.err else 0
/-- The memory behind a step. -/
def Mem.done (M : Mem) (o : Step) : Mem :=
  if o.k = 0 then M.store o.at_ o.v else if o.k = 1 then M.flush o.at_ else if o.k = 2 then M.fence else if o.k = 3 then M.evict o.at_ else if o.k = 4 then M.stop o.at_ else M.crash o.keep

/-- The cells of a step's copy. -/
theorem boxed_cell {w w2 : World} {c : Array Value} {t : TypeId} (hb : Below (w.alloc (.cells c t)).heap.size (w.alloc (.cells c t)) w2) (i : Nat) : w2.cell? ⟨w.heap.size, i, none⟩ = c[i]? := by
  rw [hb.cell (p := ⟨w.heap.size, i, none⟩) (by simp)]
  unfold World.cell?
  rw [heap_alloc_new w]
  simp

theorem does_nil (o : Step) (kv : Value) (w : World) :
    Calls Try.prog 14 #[.pointer none, .agg #[.int .i64 o.kind, .int .i64 o.at_, .int .u64 o.v, kv]] w fun e w' => e = .returned (.int .i64 (if o.k < 3 then 1 else 0)) ∧ Below w.heap.size w w' := by
  have hs := store_nil
  have hf := flush_nil
  have hn := fence_nil
  have hev := evict_nil
  have hst := stop_nil
  have hcr := crash_nil
  rcases o.k_cases with hk | hk | hk | hk | hk | hk
  all_goals
    rw [hk]
    go_enter Try.func14, Try.ntmps14
    go_wp2_with fail
    refine (kind_any o kv _).mono ?_
    rintro e w2 ⟨rfl, hb⟩
    rw [hk]
    have d1 := boxed_cell hb 1
    have d2 := boxed_cell hb 2
    have d3 := boxed_cell hb 3
    simp only [List.getElem?_toArray, List.getElem?_cons_succ, List.getElem?_cons_zero] at d1 d2 d3
    have hb' := ((Below.refl w.heap.size w).alloc (Nat.le_refl _) _).trans (hb.mono (by simp))
    clear hb
    go_wp2_with (first
      | (go_at_call 31; refine (hs _ _ _).mono ?_; rintro e w3 ⟨rfl, hw⟩; obtain rfl := hw.symm)
      | (go_at_call 28; refine (hf _ _).mono ?_; rintro e w3 ⟨rfl, hw⟩; obtain rfl := hw.symm)
      | (go_at_call 29; refine (hn _).mono ?_; rintro e w3 ⟨rfl, hw⟩; obtain rfl := hw.symm)
      | (go_at_call 32; refine (hev _ _).mono ?_; rintro e w3 ⟨rfl, hw⟩; obtain rfl := hw.symm)
      | (go_at_call 30; refine (hst _ _).mono ?_; rintro e w3 ⟨rfl, hw⟩; obtain rfl := hw.symm)
      | (go_at_call 25; refine (hcr _ _).mono ?_; rintro e w3 ⟨rfl, hw⟩; obtain rfl := hw.symm)
      | go_in)
    go_ret
    exact ⟨rfl, hb'⟩

theorem step0 (M : Mem) (o : Step) (h : o.k = 0) : M.does o = M.errAt o.at_ ∧ M.done o = M.store o.at_ o.v := by simp [Mem.does, Mem.done, h]
theorem step1 (M : Mem) (o : Step) (h : o.k = 1) : M.does o = M.errAt o.at_ ∧ M.done o = M.flush o.at_ := by simp [Mem.does, Mem.done, h]
theorem step2 (M : Mem) (o : Step) (h : o.k = 2) : M.does o = M.err ∧ M.done o = M.fence := by simp [Mem.does, Mem.done, h]
theorem step3 (M : Mem) (o : Step) (h : o.k = 3) : M.does o = 0 ∧ M.done o = M.evict o.at_ := by simp [Mem.does, Mem.done, h]
theorem step4 (M : Mem) (o : Step) (h : o.k = 4) : M.does o = 0 ∧ M.done o = M.stop o.at_ := by simp [Mem.does, Mem.done, h]
theorem step5 (M : Mem) (o : Step) (h : o.k = 5) : M.does o = 0 ∧ M.done o = M.crash o.keep := by simp [Mem.does, Mem.done, h]

set_option maxHeartbeats 1000000 in
theorem does_any (L : Lay) (M : Mem) (o : Step) (kv : Value) (w : World) (h : MemIs w L M) (hc : M.calls < 1000000000) (ho : o.Ok) (hkv : KeepIs w L.blocks kv o.keep) :
    Calls Try.prog 14 #[.pointer (some ⟨L.mb, 0, none⟩), .agg #[.int .i64 o.kind, .int .i64 o.at_, .int .u64 o.v, kv]] w fun e w' => e = .returned (.int .i64 (M.does o)) ∧ MemIs w' L (M.done o) ∧ Only L.blocks w w' := by
  have hs := store_any L M o.at_ o.v
  have hf := flush_any L M o.at_
  have hn := fence_any L M
  have hev := evict_any L M o.at_
  have hst := stop_any L M o.at_
  have hcr := crash_any L M kv o.keep
  have hoa := ho.at_
  have hov := ho.v
  have hok := ho.keep
  have hall := h.all_lt
  rcases o.k_cases with hk | hk | hk | hk | hk | hk
  all_goals
    first
      | rw [(step0 M o hk).1, (step0 M o hk).2]
      | rw [(step1 M o hk).1, (step1 M o hk).2]
      | rw [(step2 M o hk).1, (step2 M o hk).2]
      | rw [(step3 M o hk).1, (step3 M o hk).2]
      | rw [(step4 M o hk).1, (step4 M o hk).2]
      | rw [(step5 M o hk).1, (step5 M o hk).2]
    go_enter Try.func14, Try.ntmps14
    go_wp2_with fail
    refine (kind_any o kv _).mono ?_
    rintro e w2 ⟨rfl, hb⟩
    rw [hk]
    have d1 := boxed_cell hb 1
    have d2 := boxed_cell hb 2
    have d3 := boxed_cell hb 3
    simp only [List.getElem?_toArray, List.getElem?_cons_succ, List.getElem?_cons_zero] at d1 d2 d3
    have hb' := ((Below.refl w.heap.size w).alloc (Nat.le_refl _) _).trans (hb.mono (by simp))
    clear hb
    have h2 := h.below hb' hall
    have o2 : Only L.blocks w w2 := Only.of_below hb'
    have hkv2 := hkv.only o2
    go_wp2_with (first
      | (go_at_call 31; refine (hs _ h2 hc hoa hov).mono ?_; rintro e w3 ⟨rfl, h3, o3⟩)
      | (go_at_call 28; refine (hf _ h2 hc).mono ?_; rintro e w3 ⟨rfl, h3, o3⟩)
      | (go_at_call 29; refine (hn _ h2 hc).mono ?_; rintro e w3 ⟨rfl, h3, o3⟩)
      | (go_at_call 32; refine (hev _ h2 hoa).mono ?_; rintro e w3 ⟨rfl, h3, o3⟩)
      | (go_at_call 30; refine (hst _ h2 hc).mono ?_; rintro e w3 ⟨rfl, h3, o3⟩)
      | (go_at_call 25; refine (hcr _ h2 hc hkv2 hok).mono ?_; rintro e w3 ⟨rfl, h3, o3⟩)
      | go_in)
    go_ret
    exact ⟨rfl, h3, o2.trans o3⟩

end Go.Proofs.Ytoabgkkfhoiagaa
