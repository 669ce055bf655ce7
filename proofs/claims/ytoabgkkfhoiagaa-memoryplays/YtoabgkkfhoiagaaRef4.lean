/- The document's memory: Fence. -/
import Derived.Test.YtoabgkkfhoiagaaRef3
namespace Go.Proofs.Ytoabgkkfhoiagaa
open Go.RowKit Go.Maps Go.ChangeMaps

def fencedW (x : RW) : RW := { x with sure := x.way, goes := false, loose := decide (x.now ≠ x.way) }
def fenceR (R : Nat → RW) (t : Nat) : Nat → RW := fun i => if i < t ∧ (R i).goes = true then fencedW (R i) else R i
theorem fenceR_zero (R : Nat → RW) : fenceR R 0 = R := by funext i; simp [fenceR]
theorem fenceR_at (R : Nat → RW) (t : Nat) : fenceR R t t = R t := by simp [fenceR]
theorem fenceR_miss (R : Nat → RW) (t : Nat) (h : (R t).goes = false) : fenceR R (t + 1) = fenceR R t := by
  funext i
  unfold fenceR
  by_cases e : i = t
  · subst e; simp [h]
  · have : (i < t + 1) ↔ (i < t) := by omega
    simp only [this]
theorem fenceR_hit (R : Nat → RW) (t : Nat) (h : (R t).goes = true) : fenceR R (t + 1) = updR (fenceR R t) t (fencedW (R t)) := by
  funext i
  by_cases e : i = t
  · subst e; rw [updR_same]; unfold fenceR; rw [if_pos ⟨by omega, h⟩]
  · rw [updR_other _ _ e]
    unfold fenceR
    have : (i < t + 1) ↔ (i < t) := by omega
    simp only [this]

/-- What a fence makes of M, the call counted ahead. -/
def fencedM (M : Mem) : Mem := { M with sure := sureTo M (fun _ => false), loose := looseTo M (fun _ => false), way := fun _ => none }

theorem fencedM_len (M : Mem) : (fencedM M).sure.length = M.sure.length := sureTo_len M (fun _ => false)

theorem words_fence {M : Mem} {R : Nat → RW} (hW : Words M R) (hS : Sound M) : Words (fencedM M) (fenceR R M.sure.length) := by
  have hlen : (fencedM M).sure.length = M.sure.length := fencedM_len M
  have hsure : ∀ i, i < M.sure.length → (fencedM M).sure.getD i 0 = (M.way i).getD (M.sure.getD i 0) := fun i hi => by
    show (sureTo M (fun _ => false)).getD i 0 = _
    simp [sureTo, hi]
  have hloose : ∀ k, (fencedM M).loose k = if (M.way k).isSome = true ∧ M.loose k = M.way k then none else M.loose k := fun k => by
    show looseTo M (fun _ => false) k = _
    unfold looseTo; simp
  have both : ∀ i : Nat, i < M.sure.length → (fenceR R M.sure.length i).sure = (fencedM M).sure.getD i 0 ∧ (fenceR R M.sure.length i).now = (fencedM M).read i ∧ (fenceR R M.sure.length i).loose = ((fencedM M).loose i).isSome ∧ (fenceR R M.sure.length i).goes = false := fun i hi => by
    rw [read_of _ i (by rw [hlen]; exact hi), hsure i hi, hloose]
    cases hw : M.way i with
    | none =>
      have hg : (R i).goes = false := by rw [hW.goes i hi, hw]; rfl
      have e : fenceR R M.sure.length i = R i := by unfold fenceR; rw [if_neg (by simp [hg])]
      rw [e]
      simp only [Option.isSome_none, Bool.false_eq_true, false_and, if_false, Option.getD_none]
      exact ⟨hW.sure i hi, by rw [hW.now i hi, read_of M i hi], hW.loose i hi, hg⟩
    | some v =>
      have hg : (R i).goes = true := by rw [hW.goes i hi, hw]; rfl
      have e : fenceR R M.sure.length i = fencedW (R i) := by unfold fenceR; rw [if_pos ⟨hi, hg⟩]
      have hwy : (R i).way = v := hW.way i v hi hw
      obtain ⟨u, hu⟩ := Option.isSome_iff_exists.1 (hS.way i (by rw [hw]; rfl))
      have hn : (R i).now = u := by rw [hW.now i hi, read_of M i hi, hu]; rfl
      rw [e, hu]
      unfold fencedW
      simp only [Option.isSome_some, true_and, Option.some.injEq, Option.getD_some]
      rw [hwy, hn]
      by_cases euv : u = v
      · subst euv; simp
      · simp [euv]
  refine ⟨fun i hi => ?_, fun i hi => ?_, fun i hi => ?_, fun i hi => ?_, fun i u hi hu => ?_⟩
  · rw [hlen] at hi; exact (both i hi).1
  · rw [hlen] at hi; exact (both i hi).2.1
  · rw [hlen] at hi; exact (both i hi).2.2.1
  · rw [hlen] at hi; rw [(both i hi).2.2.2]; rfl
  · cases hu

theorem sound_fence {M : Mem} (hS : Sound M) : Sound (fencedM M) where
  way k hk := by cases hk
  stop := hS.stop
  looseIn k v hv := by
    rw [fencedM_len]
    exact looseTo_in M (fun _ => false) hS.looseIn k v hv

set_option maxHeartbeats 4000000 in
set_option maxRecDepth 100000 in
theorem fence_ref (L : RLay) (M : Mem) (w : World) (H : RefIs w L M) (hc : M.calls < 1000000000) :
    Calls Try.prog 37 #[.pointer (some ⟨L.rb, 0, none⟩)] w fun e w' => e = .returned (.int .i64 M.err) ∧ RefIs w' L M.fence ∧ Only L.blocks w w' := by
  by_cases he : M.err = 0
  · have e4 : M.fence = fencedM M.counted := by unfold Mem.fence; rw [if_pos he]; rfl
    rw [he, e4]
    clear e4
    go_enter Try.func37, Try.ntmps37
    go_wp2_with fail
    refine (call_ref L M _ H hc).mono ?_
    rintro e w1 ⟨rfl, h1, o1⟩
    rw [he]
    obtain ⟨R, hR, hW, hS⟩ := h1
    have hR0 : RefAt w1 L M.sure.length R (M.calls + 1) (haltOf M) := hR
    have hlen := hR0.len
    have HWS : Hid (Words M.counted R ∧ Sound M.counted) := ⟨hW, hS⟩
    clear hW hS hR
    go_wp2
    go_loopw [4] (fun i wr => ∃ t : Nat, t ≤ M.sure.length ∧ i = .int .i64 t ∧ RefAt wr L M.sure.length (fenceR R t) (M.calls + 1) (haltOf M) ∧ Only L.blocks w wr) (fun i _ => M.sure.length - (intOf i).toNat)
    case atStart => exact ⟨0, Nat.zero_le _, rfl, by rw [fenceR_zero]; exact hR0, ronly_sub o1 (by simp [RLay.blocks])⟩
    case round =>
      clear hR0 o1
      obtain ⟨t, ht, rfl, hA, ho⟩ := hrel
      by_cases hlt : t < M.sure.length
      · have hti : (t : Int) < (M.sure.length : Int) := by omega
        have e := hA.some_of_pos (Nat.zero_lt_of_lt hlt)
        have c0 := hA.c0
        rw [e] at c0
        have cg := hA.cell t 4 hlt (by omega)
        rw [fenceR_at] at cg
        simp only [fld] at cg
        cases hg : (R t).goes with
        | false =>
          have HM : Hid (fenceR R (t + 1) = fenceR R t) := fenceR_miss R t hg
          rw [hg] at cg
          go_wp2
          go_roundw
          case rel => exact ⟨t + 1, by omega, by go_num, by rw [HM.out]; exact hA, ho⟩
          case measure => simp [intOf]; omega
        | true =>
          have HM : Hid (fenceR R (t + 1) = updR (fenceR R t) t (fencedW (R t))) := fenceR_hit R t hg
          rw [hg] at cg
          have cw := hA.cell t 2 hlt (by omega)
          have cs := hA.cell t 0 hlt (by omega)
          have fs := hA.cellFz (Nat.zero_lt_of_lt hlt) (t * 5)
          have hA1 := hA.set t 0 { R t with sure := (R t).way } hlt (by omega) (by rw [fenceR_at]; exact fld5 (fun h => absurd rfl h) (fun _ => rfl) (fun _ => rfl) (fun _ => rfl) (fun _ => rfl))
          rw [fenceR_at] at cw cs
          simp only [fld, Nat.add_zero] at cw cs hA1
          have o2 : Only L.blocks w (wr.setCell ⟨L.gb, t * 5, none⟩ (.int .u64 (R t).way)) := ho.setCell (by simp [RLay.blocks]) _
          generalize hw1 : wr.setCell ⟨L.gb, t * 5, none⟩ (.int .u64 (R t).way) = w2 at hA1 o2
          have c1 := hA1.c0
          rw [e] at c1
          have cg1 := hA1.cell t 4 hlt (by omega)
          have fg1 := hA1.cellFz (Nat.zero_lt_of_lt hlt) (t * 5 + 4)
          have hA2 := hA1.set t 4 { R t with sure := (R t).way, goes := false } hlt (by omega) (by rw [updR_same]; exact fld5 (fun _ => rfl) (fun _ => rfl) (fun _ => rfl) (fun _ => rfl) (fun h => absurd rfl h))
          rw [updR_twice] at hA2
          simp only [fld, updR_same] at cg1 hA2
          have o3 : Only L.blocks w (w2.setCell ⟨L.gb, t * 5 + 4, none⟩ (.bool false)) := o2.setCell (by simp [RLay.blocks]) _
          generalize hw2 : w2.setCell ⟨L.gb, t * 5 + 4, none⟩ (.bool false) = w3 at hA2 o3
          have c2 := hA2.c0
          rw [e] at c2
          have cn2 := hA2.cell t 1 hlt (by omega)
          have cw2 := hA2.cell t 2 hlt (by omega)
          have cl2 := hA2.cell t 3 hlt (by omega)
          have fl2 := hA2.cellFz (Nat.zero_lt_of_lt hlt) (t * 5 + 3)
          have hA3 := hA2.set t 3 (fencedW (R t)) hlt (by omega) (by rw [updR_same]; exact fld5 (fun _ => rfl) (fun _ => rfl) (fun _ => rfl) (fun h => absurd rfl h) (fun _ => rfl))
          rw [updR_twice, ← HM.out] at hA3
          simp only [fld, updR_same] at cn2 cw2 cl2 hA3
          by_cases hnw : (R t).now = (R t).way
          · have hv : (fencedW (R t)).loose = false := by simp [fencedW, hnw]
            rw [hv] at hA3
            have HA : Hid _ := hA3
            have hb : ((R t).now == (R t).way) = true := by simp [hnw]
            generalize (R t).now = nowv at *
            generalize (R t).way = wayv at *
            clear hA hA1 hA2 hA3 HM hv
            go_wp2
            go_region
            all_goals
              go_wp2
              go_region
              all_goals
                go_wp2
                go_roundw
                case rel => exact ⟨t + 1, by omega, by go_num, (Hid.out HA).drew.drew, (o3.setCell (by simp [RLay.blocks]) _).drew.drew⟩
                case measure => simp [intOf]; omega
          · have hv : (fencedW (R t)).loose = true := by simp [fencedW, hnw]
            rw [hv] at hA3
            have HA : Hid _ := hA3
            have hb : ((R t).now == (R t).way) = false := by simp [hnw]
            generalize (R t).now = nowv at *
            generalize (R t).way = wayv at *
            clear hA hA1 hA2 hA3 HM hv
            go_wp2
            go_region
            all_goals
              go_wp2
              go_region
              all_goals
                go_wp2
                go_roundw
                case rel => exact ⟨t + 1, by omega, by go_num, (by rw [show (nowv != wayv) = true from by simp [bne, hb]]; exact (Hid.out HA).drew.drew), (o3.setCell (by simp [RLay.blocks]) _).drew.drew⟩
                case measure => simp [intOf]; omega
      · obtain rfl : t = M.sure.length := by omega
        have c0 := hA.c0
        go_wp2
        go_ret
        exact ⟨rfl, ⟨_, by rw [fencedM_len]; exact hA, words_fence HWS.out.1 HWS.out.2, sound_fence HWS.out.2⟩, ho⟩
  · have e3 : M.fence = M.counted := by simp [Mem.fence, he]
    have he' : M.err = 14 := by unfold Mem.err at he ⊢; split <;> simp_all
    rw [e3, he']
    go_enter Try.func37, Try.ntmps37
    go_wp2_with (go_at_call 47; refine (call_ref L M _ H hc).mono ?_; rintro e w' ⟨rfl, h1, o1⟩; rw [he'])
    go_ret
    exact ⟨rfl, h1, ronly_sub o1 (by simp [RLay.blocks])⟩

end Go.Proofs.Ytoabgkkfhoiagaa
