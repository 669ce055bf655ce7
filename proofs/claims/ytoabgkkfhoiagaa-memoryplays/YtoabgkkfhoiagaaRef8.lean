/- A step of a script, done to the document's memory. -/
import Derived.Test.YtoabgkkfhoiagaaRef6
import Derived.Test.YtoabgkkfhoiagaaRef7
namespace Go.Proofs.Ytoabgkkfhoiagaa
open Go.RowKit Go.Maps Go.ChangeMaps

set_option maxHeartbeats 1000000 in
theorem does_ref (L : RLay) (M : Mem) (o : Step) (kv : Value) (w : World) (h : RefIs w L M) (hc : M.calls < 1000000000) (ho : o.Ok) (hkv : KeepIs w L.blocks kv o.keep) :
    Calls Try.prog 15 #[.pointer (some ⟨L.rb, 0, none⟩), .agg #[.int .i64 o.kind, .int .i64 o.at_, .int .u64 o.v, kv]] w fun e w' => e = .returned (.int .i64 (M.does o)) ∧ RefIs w' L (M.done o) ∧ Only L.blocks w w' := by
  have hs := store_ref L M o.at_ o.v
  have hf := flush_ref L M o.at_
  have hn := fence_ref L M
  have hev := evict_ref L M o.at_
  have hst := stop_ref L M o.at_
  have hcr := crash_ref L M kv o.keep
  have hok := ho.keep
  have hall := h.all_lt
  rcases o.k_cases with hk | hk | hk | hk | hk | hk
  all_goals
    first
      | rw [(step0 M o hk).1, (step0 M o hk).2]
      | rw [(step1 M o hk).1, (step1 M o hk).2]
      | rw [(step2 M o hk).1, (step2 M o hk).2]
      | rw [(step3 M o hk).1, (step3 M o hk).2]
      | rw [(step4 M o hk).1, (step4 M o hk).2]
      | rw [(step5 M o hk).1, (step5 M o hk).2]
    go_enter Try.func15, Try.ntmps15
    go_wp2_with fail
    refine (kind_any o kv _).mono ?_
    rintro e w2 ⟨rfl, hb⟩
    rw [hk]
    have d1 := boxed_cell hb 1
    have d2 := boxed_cell hb 2
    have d3 := boxed_cell hb 3
    simp only [List.getElem?_toArray, List.getElem?_cons_succ, List.getElem?_cons_zero] at d1 d2 d3
    have hb' := ((Below.refl w.heap.size w).alloc (Nat.le_refl _) _).trans (hb.mono (by simp))
    clear hb
    have h2 := h.below hb' hall
    have o2 : Only L.blocks w w2 := Only.of_below hb'
    have hkv2 := hkv.only o2
    go_wp2_with (first
      | (go_at_call 35; refine (hs _ h2 hc).mono ?_; rintro e w3 ⟨rfl, h3, o3⟩)
      | (go_at_call 36; refine (hf _ h2 hc).mono ?_; rintro e w3 ⟨rfl, h3, o3⟩)
      | (go_at_call 37; refine (hn _ h2 hc).mono ?_; rintro e w3 ⟨rfl, h3, o3⟩)
      | (go_at_call 38; refine (hev _ h2).mono ?_; rintro e w3 ⟨rfl, h3, o3⟩)
      | (go_at_call 39; refine (hst _ h2 hc).mono ?_; rintro e w3 ⟨rfl, h3, o3⟩)
      | (go_at_call 40; refine (hcr _ h2 hkv2 hok).mono ?_; rintro e w3 ⟨rfl, h3, o3⟩)
      | go_in)
    go_ret
    exact ⟨rfl, h3, o2.trans o3⟩

end Go.Proofs.Ytoabgkkfhoiagaa
