/- GaugeSums' walk: for every list, three float64s and two ints it answers true. -/
import Derived.Test.YtnebmbabfghlaaaDoorSumsT
import Derived.Deep.RegionHeld3
namespace Go.Proofs.YtnebmbabfghlaaaDoor.gaugeSums
open Go.RowKit

theorem same_yes (a b : Nat) (w : World) (h : sameB a b = true) : Calls Tryd.prog 17 #[.float .f64 a, .float .f64 b] w fun e w' => e = .returned (.bool true) ∧ w' = w := by
  rw [← h]; exact same_any a b w
theorem same_self (x : Nat) : sameB x x = true := by simp [sameB]

set_option maxRecDepth 20000 in
set_option maxHeartbeats 8000000 in
theorem walk (TH TL : Nat → Int) (hT : ∀ i, U64 (TH i) ∧ U64 (TL i)) (a0 : Option Addr) (cap0 : Nat) (xs0 : List Nat) (x0 x1 x2 : Nat) (n0 n1 : Int) (w : World) (h0 : FIn w a0 cap0 xs0) (hx0 : x0 < 18446744073709551616) (hn0 : -9223372036854775808 ≤ n0 ∧ n0 ≤ 9223372036854775807) (ht : Tabs w TH TL) :
    Calls Tryd.prog 4 #[.slice a0 xs0.length cap0, .agg #[.float .f64 x0, .float .f64 x1, .float .f64 x2], .agg #[.int .i64 n0, .int .i64 n1]] w fun e w' => e = .returned (.bool true) ∧ Below w.heap.size w w' := by
  obtain ⟨T, hsh⟩ := show_all TH TL hT x0 hx0
  have HSH : Hid _ := hsh
  obtain ⟨xs, hxc, G0, E0⟩ := early_cut a0 cap0 xs0 w h0
  obtain ⟨n, hn⟩ : ∃ n, xs.length = n := ⟨_, rfl⟩
  rw [hn] at E0 hxc
  have HLX : Hid (xs.length = n) := hn
  have HTW : Hid (Tabs w TH TL) := ht
  have HN0 : Hid (-9223372036854775808 ≤ n0 ∧ n0 ≤ 9223372036854775807) := hn0
  have h3 : 3 < w.heap.size := ht.2.2
  clear hn h0 hsh ht hn0
  go_enter Tryd.func4, Tryd.ntmps4
  go_wp2_with fail
  generalize hW : (w.alloc _).alloc _ = W
  have hsz : W.heap.size = w.heap.size + 2 := by rw [← hW]; simp
  have hbW : Below w.heap.size w W := by rw [← hW]; exact ((Below.refl _ _).alloc (Nat.le_refl _) _).alloc (by simp) _
  have C0 : Hid (W.cell? ⟨w.heap.size, 0, none⟩ = some (.float .f64 x0)) := by subst hW; show _ = _; go_simp
  have C1 : Hid (W.cell? ⟨w.heap.size, 1, none⟩ = some (.float .f64 x1)) := by subst hW; show _ = _; go_simp
  have C2 : Hid (W.cell? ⟨w.heap.size, 2, none⟩ = some (.float .f64 x2)) := by subst hW; show _ = _; go_simp
  have D0 : Hid (W.cell? ⟨w.heap.size + 1, 0, none⟩ = some (.int .i64 n0)) := by subst hW; show _ = _; go_simp
  have D1 : Hid (W.cell? ⟨w.heap.size + 1, 1, none⟩ = some (.int .i64 n1)) := by subst hW; show _ = _; go_simp
  have HSZ : Hid (W.heap.size = w.heap.size + 2) := hsz
  clear hW hsz
  refine (lives_any _).mono ?_
  rintro e w1 ⟨rfl, hb1⟩
  go_wp2_with fail
  refine Calls.mono (Hid.out E0 w1) ?_
  rintro e w' ⟨rfl, rfl⟩
  have HC : Hid (∀ v, Below W.heap.size W v → v.cell? ⟨w.heap.size, 0, none⟩ = some (.float .f64 x0) ∧ v.cell? ⟨w.heap.size, 1, none⟩ = some (.float .f64 x1) ∧ v.cell? ⟨w.heap.size, 2, none⟩ = some (.float .f64 x2) ∧ v.cell? ⟨w.heap.size + 1, 0, none⟩ = some (.int .i64 n0) ∧ v.cell? ⟨w.heap.size + 1, 1, none⟩ = some (.int .i64 n1)) := fun v hv => by
    have := HSZ.out
    exact ⟨(hv.cell (p := ⟨w.heap.size, 0, none⟩) (by show w.heap.size < _; omega)).trans C0.out, (hv.cell (p := ⟨w.heap.size, 1, none⟩) (by show w.heap.size < _; omega)).trans C1.out, (hv.cell (p := ⟨w.heap.size, 2, none⟩) (by show w.heap.size < _; omega)).trans C2.out, (hv.cell (p := ⟨w.heap.size + 1, 0, none⟩) (by show w.heap.size + 1 < _; omega)).trans D0.out, (hv.cell (p := ⟨w.heap.size + 1, 1, none⟩) (by show w.heap.size + 1 < _; omega)).trans D1.out⟩
  have HF : Hid (∀ v, Below W.heap.size W v → FAt v a0 xs) := fun v hv => (G0.out.below hbW (Nat.le_refl _)).below hv (Nat.le_refl _)
  have HTB : Hid (∀ v, Below W.heap.size W v → Tabs v TH TL) := fun v hv => (HTW.out.below hbW h3).below hv (by have := HSZ.out; omega)
  have HE : Hid (∀ v, Below W.heap.size W v → Below w.heap.size w v) := fun v hv => hbW.trans (hv.mono (by have := HSZ.out; omega))
  have bel : Below W.heap.size W w' := hb1
  obtain ⟨c0, c1, c2, d0, d1⟩ := HC.out w' bel
  clear G0 E0 C0 C1 C2 D0 D1 hb1 hbW HTW
  go_wp2_with fail
  go_region_held3 (fun v => v.cell? ⟨w.heap.size, 0, none⟩ = some (.float .f64 x0) ∧ v.cell? ⟨w.heap.size, 1, none⟩ = some (.float .f64 x1) ∧ v.cell? ⟨w.heap.size, 2, none⟩ = some (.float .f64 x2) ∧ v.cell? ⟨w.heap.size + 1, 0, none⟩ = some (.int .i64 n0) ∧ v.cell? ⟨w.heap.size + 1, 1, none⟩ = some (.int .i64 n1))
    (first | exact HC.out _ bel | exact HC.out _ bel.drew | exact HC.out _ (below_drewN bel _))
    (first
      | (go_at_call 23; refine Calls.mono (sum_any a0 cap0 n xs _ (HF.out _ bel.drew) HLX.out) ?_; rintro e v1 ⟨rp, rfl, hp, hb⟩; have bel := bel.drew.trans (hb.mono bel.size); have hp : Hid _ := hp; clear hb)
      | (go_at_call 24; refine Calls.mono (refSum_any a0 cap0 n xs _ (HF.out _ bel) HLX.out) ?_; rintro e v2 ⟨rq, rfl, hq, hb⟩; have bel := bel.trans (hb.mono bel.size); have hq : Hid _ := hq; clear hb)
      | (go_at_call 25; refine Calls.mono (mean_any a0 cap0 n xs _ (HF.out _ bel) HLX.out) ?_; rintro e v3 ⟨rp, rfl, hp, hb⟩; have bel := bel.trans (hb.mono bel.size); have hp : Hid _ := hp; clear hb)
      | (go_at_call 26; refine Calls.mono (refMean_any a0 cap0 n xs _ (HF.out _ bel) HLX.out) ?_; rintro e v4 ⟨rq, rfl, hq, hb⟩; have bel := bel.trans (hb.mono bel.size); have hq : Hid _ := hq; clear hb)
      | (go_at_call 27; refine Calls.mono (ratio_any n0 n1 _) ?_; rintro e v5 ⟨rp, rfl, hp, hb⟩; have bel := bel.trans (hb.mono bel.size); have hp : Hid _ := hp; clear hb)
      | (go_at_call 28; refine Calls.mono (refRatio_any n0 n1 HN0.out _) ?_; rintro e v6 ⟨rq, rfl, hq, hb⟩; have bel := bel.trans (hb.mono bel.size); have hq : Hid _ := hq; clear hb)
      | (go_at_call 29; refine Calls.mono (clamp_any x0 x1 x2 _) ?_; rintro e v7 ⟨rfl, rfl⟩)
      | (go_at_call 30; refine Calls.mono (refClamp_any x0 x1 x2 _) ?_; rintro e v8 ⟨rfl, rfl⟩)
      | (go_at_call 31; refine Calls.mono (HSH.out _ (HTB.out _ bel)).1 ?_; rintro e v9 ⟨rfl, hb⟩; have bel := bel.trans (hb.mono bel.size); clear hb)
      | (go_at_call 32; refine Calls.mono (HSH.out _ (HTB.out _ bel)).2 ?_; rintro e v10 ⟨rfl, hb⟩; have bel := bel.trans (hb.mono bel.size); clear hb)
      | (go_at_call 17; refine Calls.mono (same_yes _ _ _ (num_same hp.out hq.out)) ?_; rintro e v11 ⟨rfl, rfl⟩)
      | (go_at_call 17; refine Calls.mono (same_yes _ _ _ (same_self _)) ?_; rintro e v12 ⟨rfl, rfl⟩))
  have BF : Hid (Below w.heap.size w _) := HE.out _ bel
  go_wp2
  go_ret
  exact ⟨rfl, BF.out⟩
end Go.Proofs.YtnebmbabfghlaaaDoor.gaugeSums
