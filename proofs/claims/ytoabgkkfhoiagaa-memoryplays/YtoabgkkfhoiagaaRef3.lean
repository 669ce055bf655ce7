/- The document's memory: Flush and Fence. -/
import Derived.Test.YtoabgkkfhoiagaaRef2
import Derived.BigRegion
namespace Go.Proofs.Ytoabgkkfhoiagaa
open Go.RowKit Go.Maps Go.ChangeMaps

def flushR (R : Nat → RW) (q t : Nat) : Nat → RW := fun i => if i < t ∧ i / 8 = q ∧ (R i).loose = true then { R i with way := (R i).now, goes := true } else R i
theorem flushR_zero (R : Nat → RW) (q : Nat) : flushR R q 0 = R := by funext i; simp [flushR]
theorem flushR_at (R : Nat → RW) (q t : Nat) : flushR R q t t = R t := by simp [flushR]
theorem flushR_miss (R : Nat → RW) (q t : Nat) (h : ¬ (t / 8 = q ∧ (R t).loose = true)) : flushR R q (t + 1) = flushR R q t := by
  funext i
  unfold flushR
  by_cases e : i = t
  · subst e; rw [if_neg (fun x => h x.2), if_neg (fun x => h x.2)]
  · have : (i < t + 1) ↔ (i < t) := by omega
    simp only [this]
theorem flushR_hit (R : Nat → RW) (q t : Nat) (h : t / 8 = q ∧ (R t).loose = true) : flushR R q (t + 1) = updR (flushR R q t) t { R t with way := (R t).now, goes := true } := by
  funext i
  by_cases e : i = t
  · subst e; rw [updR_same]; unfold flushR; rw [if_pos ⟨by omega, h⟩]
  · rw [updR_other _ _ e]
    unfold flushR
    have : (i < t + 1) ↔ (i < t) := by omega
    simp only [this]

theorem words_flush {M : Mem} {R : Nat → RW} (hW : Words M R) (q : Nat) : Words { M with way := wayOf M q } (flushR R q M.sure.length) := by
  have key : ∀ i : Nat, i < M.sure.length → ((i < M.sure.length ∧ i / 8 = q ∧ (R i).loose = true) ↔ ((i : Int) / 8 = (q : Int) ∧ (M.loose i).isSome = true)) := fun i hi => by
    rw [hW.loose i hi]
    constructor
    · rintro ⟨_, h1, h2⟩; exact ⟨by omega, h2⟩
    · rintro ⟨h1, h2⟩; exact ⟨hi, by omega, h2⟩
  refine ⟨fun i hi => ?_, fun i hi => ?_, fun i hi => ?_, fun i hi => ?_, fun i u hi hu => ?_⟩
  · unfold flushR; split
    · exact hW.sure i hi
    · exact hW.sure i hi
  · have e : ({ M with way := wayOf M q } : Mem).read i = M.read i := rfl
    rw [e]; unfold flushR; split
    · exact hW.now i hi
    · exact hW.now i hi
  · unfold flushR; split
    · exact hW.loose i hi
    · exact hW.loose i hi
  · show _ = (wayOf M q i).isSome
    unfold flushR wayOf
    by_cases c : (i : Int) / 8 = (q : Int) ∧ (M.loose i).isSome = true
    · rw [if_pos ((key i hi).2 c), if_pos c, c.2]
    · rw [if_neg (fun x => c ((key i hi).1 x)), if_neg c]; exact hW.goes i hi
  · have hu' : wayOf M q i = some u := hu
    unfold wayOf at hu'
    unfold flushR
    by_cases c : (i : Int) / 8 = (q : Int) ∧ (M.loose i).isSome = true
    · rw [if_pos ((key i hi).2 c)]
      rw [if_pos c] at hu'
      show (R i).now = u
      rw [hW.now i hi, read_of M i hi, hu']; rfl
    · rw [if_neg (fun x => c ((key i hi).1 x))]
      rw [if_neg c] at hu'
      exact hW.way i u hi hu'

theorem sound_flush {M : Mem} (hS : Sound M) (q : Int) : Sound { M with way := wayOf M q } where
  way k hk := by
    have h2 : (wayOf M q k).isSome = true := hk
    unfold wayOf at h2
    split at h2
    · exact h2
    · exact hS.way k h2
  stop := hS.stop
  looseIn := hS.looseIn

set_option maxHeartbeats 2000000 in
set_option maxRecDepth 100000 in
theorem flush_ref (L : RLay) (M : Mem) (k : Int) (w : World) (H : RefIs w L M) (hc : M.calls < 1000000000) :
    Calls Try.prog 36 #[.pointer (some ⟨L.rb, 0, none⟩), .int .i64 k] w fun e w' => e = .returned (.int .i64 (M.errAt k)) ∧ RefIs w' L (M.flush k) ∧ Only L.blocks w w' := by
  cases hst : M.still with
  | true =>
    have e1 : M.err = 14 := by simp [Mem.err, hst]
    have e2 : M.errAt k = 14 := by simp [Mem.errAt, hst]
    have e3 : M.flush k = M.counted := by simp [Mem.flush, e2]
    rw [e2, e3]
    go_enter Try.func36, Try.ntmps36
    go_wp2_with (go_at_call 47; refine (call_ref L M _ H hc).mono ?_; rintro e w' ⟨rfl, h1, o1⟩; rw [e1])
    go_ret
    exact ⟨rfl, h1, ronly_sub o1 (by simp [RLay.blocks])⟩
  | false =>
    have e1 : M.err = 0 := by simp [Mem.err, hst]
    cases hh : M.has k with
    | false =>
      have e2 : M.errAt k = 1 := by simp [Mem.errAt, hst, hh]
      have e3 : M.counted.has k = false := hh
      have e4 : M.flush k = M.counted := by simp [Mem.flush, e2]
      rw [e2, e4]
      go_enter Try.func36, Try.ntmps36
      go_wp2_with (first
        | (go_at_call 47; refine (call_ref L M _ H hc).mono ?_; rintro e w' ⟨rfl, h1, o1⟩; rw [e1])
        | (go_at_call 48; refine (there_ref L M.counted k _ h1).mono ?_; rintro e w' ⟨rfl, rfl⟩; rw [e3]))
      go_ret
      exact ⟨rfl, h1, ronly_sub o1 (by simp [RLay.blocks])⟩
    | true =>
      have e2 : M.errAt k = 0 := by simp [Mem.errAt, hst, hh]
      have e3 : M.counted.has k = true := hh
      have e4 : M.flush k = { M.counted with way := wayOf M (k / 8) } := by simp [Mem.flush, e2]
      obtain ⟨j, rfl, hj⟩ := has_nat hh
      rw [e2, e4]
      clear e4 hh e2 hst
      go_enter Try.func36, Try.ntmps36
      go_wp2_with fail
      refine (call_ref L M _ H hc).mono ?_
      rintro e w1 ⟨rfl, h1, o1⟩
      rw [e1]
      go_wp2_with fail
      refine (there_ref L M.counted j _ h1).mono ?_
      rintro e w2 ⟨rfl, hw⟩
      obtain rfl := hw.symm
      rw [e3]
      obtain ⟨R, hR, hW, hS⟩ := h1
      have hR0 : RefAt w1 L M.sure.length R (M.calls + 1) (haltOf M) := hR
      have e := hR0.some_of_pos (Nat.zero_lt_of_lt hj)
      have hlen := hR0.len
      have HWS : Hid (Words M.counted R ∧ Sound M.counted) := ⟨hW, hS⟩
      clear hW hS hR
      go_wp2
      go_loopw [6] (fun i wr => ∃ t : Nat, t ≤ M.sure.length ∧ i = .int .i64 t ∧ RefAt wr L M.sure.length (flushR R (j / 8) t) (M.calls + 1) (haltOf M) ∧ Only L.blocks w wr) (fun i _ => M.sure.length - (intOf i).toNat)
      case atStart => exact ⟨0, Nat.zero_le _, rfl, by rw [flushR_zero]; exact hR0, ronly_sub o1 (by simp [RLay.blocks])⟩
      case round =>
        clear hR0 o1
        obtain ⟨t, ht, rfl, hA, ho⟩ := hrel
        have c0 := hA.c0
        rw [e] at c0
        by_cases hlt : t < M.sure.length
        · have hti : (t : Int) < (M.sure.length : Int) := by omega
          have cl := hA.cell t 3 hlt (by omega)
          rw [flushR_at] at cl
          simp only [fld] at cl
          by_cases hq : t / 8 = j / 8
          · have hqi : (t : Int) / 8 = (j : Int) / 8 := by omega
            cases hlo : (R t).loose with
            | false =>
              have HM : Hid (flushR R (j / 8) (t + 1) = flushR R (j / 8) t) := flushR_miss R _ t (fun x => by rw [hlo] at x; exact Bool.noConfusion x.2)
              rw [hlo] at cl
              clear hq
              go_wp2
              go_roundw
              case rel => exact ⟨t + 1, by omega, by go_num, by rw [HM.out]; exact hA, ho⟩
              case measure => simp [intOf]; omega
            | true =>
              have HM : Hid (flushR R (j / 8) (t + 1) = updR (flushR R (j / 8) t) t { R t with way := (R t).now, goes := true }) := flushR_hit R _ t ⟨hq, hlo⟩
              rw [hlo] at cl
              have cn := hA.cell t 1 hlt (by omega)
              have cw := hA.cell t 2 hlt (by omega)
              have fw := hA.cellFz (Nat.zero_lt_of_lt hlt) (t * 5 + 2)
              have hA1 := hA.set t 2 { R t with way := (R t).now } hlt (by omega) (by rw [flushR_at]; exact fld5 (fun _ => rfl) (fun _ => rfl) (fun h => absurd rfl h) (fun _ => rfl) (fun _ => rfl))
              rw [flushR_at] at cn cw
              simp only [fld] at cn cw hA1
              have o2 : Only L.blocks w (wr.setCell ⟨L.gb, t * 5 + 2, none⟩ (.int .u64 (R t).now)) := ho.setCell (by simp [RLay.blocks]) _
              generalize hw1 : wr.setCell ⟨L.gb, t * 5 + 2, none⟩ (.int .u64 (R t).now) = w2 at hA1 o2
              have c1 := hA1.c0
              rw [e] at c1
              have cg := hA1.cell t 4 hlt (by omega)
              have fg := hA1.cellFz (Nat.zero_lt_of_lt hlt) (t * 5 + 4)
              have hA2 := hA1.set t 4 { R t with way := (R t).now, goes := true } hlt (by omega) (by rw [updR_same]; exact fld5 (fun _ => rfl) (fun _ => rfl) (fun _ => rfl) (fun _ => rfl) (fun h => absurd rfl h))
              rw [updR_twice, ← HM.out] at hA2
              simp only [fld, updR_same] at cg hA2
              have HA : Hid _ := hA2
              clear hA hA1 hA2 hq
              go_wp2
              go_region
              all_goals
                go_wp2
                go_roundw
                case rel => exact ⟨t + 1, by omega, by go_num, (Hid.out HA).drew, (o2.setCell (by simp [RLay.blocks]) _).drew⟩
                case measure => simp [intOf]; omega
          · have hqi : ¬ (t : Int) / 8 = (j : Int) / 8 := by omega
            have HM : Hid (flushR R (j / 8) (t + 1) = flushR R (j / 8) t) := flushR_miss R _ t (fun x => hq x.1)
            clear hq
            go_wp2
            go_roundw
            case rel => exact ⟨t + 1, by omega, by go_num, by rw [HM.out]; exact hA, ho⟩
            case measure => simp [intOf]; omega
        · obtain rfl : t = M.sure.length := by omega
          go_wp2
          go_ret
          refine ⟨rfl, ⟨_, hA, ?_, ?_⟩, ho⟩
          · have hq : ((j : Int) / 8) = ((j / 8 : Nat) : Int) := by omega
            rw [hq]; exact words_flush HWS.out.1 (j / 8)
          · exact sound_flush HWS.out.2 _

end Go.Proofs.Ytoabgkkfhoiagaa
