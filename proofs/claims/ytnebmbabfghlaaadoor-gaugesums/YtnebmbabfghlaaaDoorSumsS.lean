/- ftoa64 of a number that is finite and not nought: one text, whatever the world. -/
import Derived.Test.YtnebmbabfghlaaaDoorSumsR
import Derived.Test.YtnebmbabfghlaaaDoorSumsQ
import Derived.Deep.RegionHeld3
namespace Go.Proofs.YtnebmbabfghlaaaDoor
open Go.RowKit Go.Lib Go.Sort
attribute [local go_sem] run_f64bits run_f64from run_f64bits'

def z32 : Array Value := Array.replicate 32 (Value.int .u8 0)
structure Buf (TH TL : Nat → Int) (w : World) (base : Nat) (v : Value) (n B : Nat) (w2 : World) : Prop where
  tabs : Tabs w2 TH TL
  own : w2.ownsRow base 5 1 v 0 []
  holds : Holds (fun (b : UInt8) => Value.int .u8 (b.toNat : Int)) w2 B 0 (Array.replicate n 0)
  bel : Below base w w2
  size : B < w2.heap.size
  apart : ∀ k, v.ownBlock = some k → k < B
theorem buf_after {TH TL : Nat → Int} {w w2 : World} {base n : Nat} {v : Value} {t : TypeId} {wq : World} (q : Nat) (hq : wq = w.drewN q) (ht : Tabs w TH TL) (hown : w.ownsRow base 5 1 v 0 []) (hbase : base ≤ w.heap.size) (hn : n ≤ 20)
    (hb : Below (wq.alloc (.cells z32 t)).heap.size (wq.alloc (.cells z32 t)) w2) : Buf TH TL w base v n w.heap.size w2 := by
  subst hq
  have h3 := ht.2.2
  have hs : ((w.drewN q).alloc (.cells z32 t)).heap.size = w.heap.size + 1 := by simp
  rw [hs] at hb
  have b1 : Below w.heap.size w ((w.drewN q).alloc (.cells z32 t)) := (below_drewN (Below.refl _ _) q).alloc (Nat.le_refl _) _
  have b2 : Below w.heap.size w w2 := b1.trans (hb.mono (by omega))
  refine ⟨ht.below b2 h3, own_below hown b2 (fun k hk => (hown.lt k hk).2), fun j hj => ?_, b2.mono hbase, by have := hb.size; rw [hs] at this; omega, fun k hk => (hown.lt k hk).2⟩
  rw [Array.size_replicate] at hj
  have hj32 : j < 32 := by omega
  have e0 : (Array.replicate n (0 : UInt8))[j]! = 0 := by simp [hj]
  rw [e0, hb.cell (p := ⟨w.heap.size, 0 + j, none⟩) (Nat.lt_succ_self _), hb.frozen (p := ⟨w.heap.size, 0 + j, none⟩) (Nat.lt_succ_self _)]
  constructor
  · have := World.cell?_alloc_new (w.drewN q) z32 t (0 + j)
    simp [z32] at this ⊢
    simp [this, hj32]
  · exact World.frozen?_alloc_new (w.drewN q) z32 t (0 + j)

set_option maxRecDepth 20000 in
set_option maxHeartbeats 4000000 in
theorem ftoa_sub (TH TL : Nat → Int) (hT : ∀ i, U64 (TH i) ∧ U64 (TL i)) (x M : Nat) (hx : x < 18446744073709551616) (hE : bits .and .i64 ((x : Int) / 4503599627370496) 2047 = 0) (hM : bits .and .u64 (x : Int) 4503599627370495 = (M : Int)) (hM0 : 0 < M) (hM1 : M < 9007199254740992) :
    ∃ T : List UInt8, ∀ (w : World) (base : Nat) (v : Value), Tabs w TH TL → w.ownsRow base 5 1 v 0 [] → base ≤ w.heap.size → 
    Calls Tryd.prog 59 #[v, .float .f64 x, .int .u8 103, .int .i64 (-1)] w fun e w' => ∃ v', e = .returned v' ∧ w'.ownsRow base 5 1 v' T.length (bRow T) ∧ Below base w w' := by
  obtain ⟨neg, hneg⟩ : ∃ b : Bool, ((x : Int) / 9223372036854775808 != 0) = b := ⟨_, rfl⟩
  obtain ⟨L, hL, L0, L1⟩ : ∃ L : Int, ((Lib.bitLen (M : Int).toNat : Nat) : Int) = L ∧ 1 ≤ L ∧ L ≤ 53 := by
    have hm : (M : Int).toNat = M := by omega
    have h1 := Lib.bitLen_le M 53 (by omega) (by omega)
    have h2 := (Lib.bitLenAux_bounds 64 M (by omega) (by omega)).1
    have h3 : Lib.bitLenAux 64 M = Lib.bitLen M := rfl
    exact ⟨_, rfl, by rw [hm]; omega, by rw [hm]; omega⟩
  have HL : Hid (∀ w, Calls Tryd.prog 66 #[.int .u64 (M : Int)] w fun e w' => e = .returned (.int .i64 L) ∧ w' = w) := fun w => by rw [← hL]; exact len64_any _ w (by omega) (by omega)
  clear hL
  obtain ⟨d, p, hs, hd, hp0, hp1⟩ := short_all TH TL (IntKind.u64.wrap ((M : Int) * 2 ^ (64 - L).toNat)) (-1022 - (64 - L) - 52) hT (u64_wrap _) ⟨by omega, by omega⟩
  obtain ⟨dn, rfl⟩ : ∃ dn : Nat, d = (dn : Int) := ⟨d.toNat, by have := hd.1; omega⟩
  have hdn : dn < 18446744073709551616 := by have := hd.2; omega
  have HS : Hid _ := hs
  clear hs
  obtain ⟨n, hn, hn20⟩ : ∃ n, nDig dn = n ∧ n ≤ 20 := ⟨_, rfl, nDig_le dn hdn⟩
  have HN : Hid (∀ w, Tabs w TH TL → Calls Tryd.prog 69 #[.int .u64 (dn : Int)] w fun e w' => e = .returned (.int .i64 (n : Int)) ∧ w' = w) := fun w h => by rw [← hn]; exact numDigits_all dn hdn TH TL w h
  have HD : Hid (dn < 10 ^ n) := by rw [← hn]; exact nDig_lt dn
  clear hn
  obtain ⟨nd, hnd, hnd20⟩ : ∃ nd, trim (digs dn n) n = nd ∧ nd ≤ n := ⟨_, rfl, trim_le _ _⟩
  have HSD : Hid (∀ w b, Holds (fun (b : UInt8) => Value.int .u8 (b.toNat : Int)) w b 0 (Array.replicate n 0) → Calls Tryd.prog 68 #[.slice (some ⟨b, 0, none⟩) 32 32, .int .u64 dn, .int .i64 p, .int .i64 n] w fun e w' => e = .returned (.tuple #[.int .i64 (n + p), .int .i64 (nd : Int)]) ∧ (∀ t, t < n → w'.cell? ⟨b, t, none⟩ = some (.int .u8 ((digs dn n t).toNat : Int))) ∧ Below b w w') := fun w b h => by
    rw [← hnd]; exact setDigits_any w b dn n p HD.out hdn hn20 ⟨hp0, hp1⟩ h
  clear hnd
  obtain ⟨T, hTT⟩ := fmt_any (digs dn n) neg nd ((n : Int) + p) (by omega) (by omega) (by omega)
  have HT : Hid _ := hTT
  clear hTT
  refine ⟨T, fun w base v ht hown hbase => ?_⟩
  have HTab : Hid (Tabs w TH TL) := ht
  have HO : Hid (w.ownsRow base 5 1 v 0 []) := hown
  have h3 : 3 < w.heap.size := ht.2.2
  clear ht hown
  have hx0 : (0 : Int) ≤ (x : Int) := by omega
  have hx1 : (x : Int) < 18446744073709551616 := by omega
  have hMi : ((M : Int) == 0) = false := by simp; omega
  go_enter Tryd.func59, Tryd.ntmps59
  go_wp2_with fail
  go_quiet (fail)
  go_wp2_with fail
  refine Calls.mono (HL.out _) ?_
  rintro e w1 ⟨rfl, rfl⟩
  go_wp2_with fail
  refine Calls.mono (HS.out _ ?ha ?hb) ?_
  case ha => exact (HTab.out.below ((below_drewN (Below.refl w.heap.size w) nq).alloc (Nat.le_refl _) _) h3).1
  case hb => simp; omega
  rintro e w2 ⟨rfl, hb2⟩
  have HB : Hid (Buf TH TL w base v n w.heap.size w2) := buf_after nq rfl HTab.out HO.out hbase hn20 hb2
  clear hb2
  go_wp2_with fail
  go_region_held3 (fun _ : World => True) (trivial) (first
    | (go_at_call 69; refine Calls.mono (Hid.out HN _ ?_) ?_; exact HB.out.tabs.below (below_drewN (Below.refl w.heap.size w2) 1) h3; rintro e w3 ⟨rfl, rfl⟩)
    | (go_at_call 68; refine Calls.mono (Hid.out HSD _ _ ?_) ?_; exact HB.out.holds; rintro e w4 ⟨rfl, hc4, hb4⟩))
  have B4 : Below w.heap.size w2 w4 := (below_drewN (Below.refl w.heap.size w2) 1).trans hb4
  have HF : Hid (FE w base w.heap.size nd (digs dn n) w4 v []) := by
    have hs2 := HB.out.size
    have hs4 := B4.size
    have hbb : Below base w w4 := HB.out.bel.trans (B4.mono hbase)
    refine ⟨own_below HB.out.own B4 HB.out.apart, fun h => ?_, fun t h => hc4 t (by omega), by omega, hbb, by omega, by simp⟩
    have := HB.out.apart _ h
    omega
  clear hc4 hb4 B4
  go_wp2_with fail
  refine Calls.mono (HT.out w w4 base w.heap.size v HF.out) ?_
  rintro e w5 ⟨v', rfl, hfe⟩
  have HFE : Hid (FE w base w.heap.size nd (digs dn n) w5 v' T) := hfe
  clear hfe
  go_wp2
  go_ret
  exact ⟨v', rfl, HFE.out.1, HFE.out.2.2.2.2.1⟩
set_option maxRecDepth 20000 in
set_option maxHeartbeats 4000000 in
theorem ftoa_nor (TH TL : Nat → Int) (hT : ∀ i, U64 (TH i) ∧ U64 (TL i)) (x E M0 M : Nat) (hx : x < 18446744073709551616) (hE : bits .and .i64 ((x : Int) / 4503599627370496) 2047 = (E : Int)) (hE0 : 1 ≤ E) (hE1 : E ≤ 2046) (hM : bits .and .u64 (x : Int) 4503599627370495 = (M0 : Int)) (hMM : bits .or .u64 (M0 : Int) 4503599627370496 = (M : Int)) (hM0 : 0 < M) (hM1 : M < 9007199254740992) :
    ∃ T : List UInt8, ∀ (w : World) (base : Nat) (v : Value), Tabs w TH TL → w.ownsRow base 5 1 v 0 [] → base ≤ w.heap.size → 
    Calls Tryd.prog 59 #[v, .float .f64 x, .int .u8 103, .int .i64 (-1)] w fun e w' => ∃ v', e = .returned v' ∧ w'.ownsRow base 5 1 v' T.length (bRow T) ∧ Below base w w' := by
  obtain ⟨neg, hneg⟩ : ∃ b : Bool, ((x : Int) / 9223372036854775808 != 0) = b := ⟨_, rfl⟩
  obtain ⟨L, hL, L0, L1⟩ : ∃ L : Int, ((Lib.bitLen (M : Int).toNat : Nat) : Int) = L ∧ 1 ≤ L ∧ L ≤ 53 := by
    have hm : (M : Int).toNat = M := by omega
    have h1 := Lib.bitLen_le M 53 (by omega) (by omega)
    have h2 := (Lib.bitLenAux_bounds 64 M (by omega) (by omega)).1
    have h3 : Lib.bitLenAux 64 M = Lib.bitLen M := rfl
    exact ⟨_, rfl, by rw [hm]; omega, by rw [hm]; omega⟩
  have HL : Hid (∀ w, Calls Tryd.prog 66 #[.int .u64 (M : Int)] w fun e w' => e = .returned (.int .i64 L) ∧ w' = w) := fun w => by rw [← hL]; exact len64_any _ w (by omega) (by omega)
  clear hL
  obtain ⟨d, p, hs, hd, hp0, hp1⟩ := short_all TH TL (IntKind.u64.wrap ((M : Int) * 2 ^ (64 - L).toNat)) ((E : Int) + -1023 - (64 - L) - 52) hT (u64_wrap _) ⟨by omega, by omega⟩
  obtain ⟨dn, rfl⟩ : ∃ dn : Nat, d = (dn : Int) := ⟨d.toNat, by have := hd.1; omega⟩
  have hdn : dn < 18446744073709551616 := by have := hd.2; omega
  have HS : Hid _ := hs
  clear hs
  obtain ⟨n, hn, hn20⟩ : ∃ n, nDig dn = n ∧ n ≤ 20 := ⟨_, rfl, nDig_le dn hdn⟩
  have HN : Hid (∀ w, Tabs w TH TL → Calls Tryd.prog 69 #[.int .u64 (dn : Int)] w fun e w' => e = .returned (.int .i64 (n : Int)) ∧ w' = w) := fun w h => by rw [← hn]; exact numDigits_all dn hdn TH TL w h
  have HD : Hid (dn < 10 ^ n) := by rw [← hn]; exact nDig_lt dn
  clear hn
  obtain ⟨nd, hnd, hnd20⟩ : ∃ nd, trim (digs dn n) n = nd ∧ nd ≤ n := ⟨_, rfl, trim_le _ _⟩
  have HSD : Hid (∀ w b, Holds (fun (b : UInt8) => Value.int .u8 (b.toNat : Int)) w b 0 (Array.replicate n 0) → Calls Tryd.prog 68 #[.slice (some ⟨b, 0, none⟩) 32 32, .int .u64 dn, .int .i64 p, .int .i64 n] w fun e w' => e = .returned (.tuple #[.int .i64 (n + p), .int .i64 (nd : Int)]) ∧ (∀ t, t < n → w'.cell? ⟨b, t, none⟩ = some (.int .u8 ((digs dn n t).toNat : Int))) ∧ Below b w w') := fun w b h => by
    rw [← hnd]; exact setDigits_any w b dn n p HD.out hdn hn20 ⟨hp0, hp1⟩ h
  clear hnd
  obtain ⟨T, hTT⟩ := fmt_any (digs dn n) neg nd ((n : Int) + p) (by omega) (by omega) (by omega)
  have HT : Hid _ := hTT
  clear hTT
  refine ⟨T, fun w base v ht hown hbase => ?_⟩
  have HTab : Hid (Tabs w TH TL) := ht
  have HO : Hid (w.ownsRow base 5 1 v 0 []) := hown
  have h3 : 3 < w.heap.size := ht.2.2
  clear ht hown
  have hx0 : (0 : Int) ≤ (x : Int) := by omega
  have hx1 : (x : Int) < 18446744073709551616 := by omega
  have hEz : ((E : Int) == 0) = false := by simp; omega
  have hEt : ((E : Int) == 2047) = false := by simp; omega
  have hEa : (1 : Int) ≤ (E : Int) := by omega
  have hEb : (E : Int) ≤ 2046 := by omega
  have hMi : ((M : Int) == 0) = false := by simp; omega
  go_enter Tryd.func59, Tryd.ntmps59
  go_wp2_with fail
  go_quiet (fail)
  go_wp2_with fail
  refine Calls.mono (HL.out _) ?_
  rintro e w1 ⟨rfl, rfl⟩
  go_wp2_with fail
  refine Calls.mono (HS.out _ ?ha ?hb) ?_
  case ha => exact (HTab.out.below ((below_drewN (Below.refl w.heap.size w) nq).alloc (Nat.le_refl _) _) h3).1
  case hb => simp; omega
  rintro e w2 ⟨rfl, hb2⟩
  have HB : Hid (Buf TH TL w base v n w.heap.size w2) := buf_after nq rfl HTab.out HO.out hbase hn20 hb2
  clear hb2
  go_wp2_with fail
  go_region_held3 (fun _ : World => True) (trivial) (first
    | (go_at_call 69; refine Calls.mono (Hid.out HN _ ?_) ?_; exact HB.out.tabs.below (below_drewN (Below.refl w.heap.size w2) 1) h3; rintro e w3 ⟨rfl, rfl⟩)
    | (go_at_call 68; refine Calls.mono (Hid.out HSD _ _ ?_) ?_; exact HB.out.holds; rintro e w4 ⟨rfl, hc4, hb4⟩))
  have B4 : Below w.heap.size w2 w4 := (below_drewN (Below.refl w.heap.size w2) 1).trans hb4
  have HF : Hid (FE w base w.heap.size nd (digs dn n) w4 v []) := by
    have hs2 := HB.out.size
    have hs4 := B4.size
    have hbb : Below base w w4 := HB.out.bel.trans (B4.mono hbase)
    refine ⟨own_below HB.out.own B4 HB.out.apart, fun h => ?_, fun t h => hc4 t (by omega), by omega, hbb, by omega, by simp⟩
    have := HB.out.apart _ h
    omega
  clear hc4 hb4 B4
  go_wp2_with fail
  refine Calls.mono (HT.out w w4 base w.heap.size v HF.out) ?_
  rintro e w5 ⟨v', rfl, hfe⟩
  have HFE : Hid (FE w base w.heap.size nd (digs dn n) w5 v' T) := hfe
  clear hfe
  go_wp2
  go_ret
  exact ⟨v', rfl, HFE.out.1, HFE.out.2.2.2.2.1⟩
end Go.Proofs.YtnebmbabfghlaaaDoor
