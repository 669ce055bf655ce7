/- Recover's contract. -/
import Derived.Test.YtfalchacdebdpaaSealJ
namespace Go.Proofs.Ytfalchacdebdpaa
open Go.RowKit Go.Maps Go.ChangeMaps Go.Shelf

theorem take_more {α : Type} (l : List α) (i : Nat) (h : i < l.length) : l.take (i + 1) = l.take i ++ [l[i]] := by
  rw [List.take_add_one, List.getElem?_eq_getElem h]; rfl
theorem run_step {M0 Mj : Mem} {S : List Stp} {j : Nat} (hj : j < S.length) (h : runP M0 (S.take j) = (Mj, 0)) (ha : Mj.ans (S.getD j ⟨0, 0, 0⟩) = 0) : runP M0 (S.take (j + 1)) = (Mj.act (S.getD j ⟨0, 0, 0⟩), 0) := by
  have e : S.take (j + 1) = S.take j ++ [S.getD j ⟨0, 0, 0⟩] := by
    have : S.getD j ⟨0, 0, 0⟩ = S[j] := by simp [hj]
    rw [take_more S j hj, this]
  rw [e, runP_app _ _ _ (by rw [h]), h]
  show runP Mj [_] = _
  rw [runP_ok ha]; rfl
theorem run_fail {M0 Mj : Mem} {S : List Stp} {j : Nat} (hj : j < S.length) (h : runP M0 (S.take j) = (Mj, 0)) (ha : Mj.ans (S.getD j ⟨0, 0, 0⟩) ≠ 0) : runP M0 S = (Mj.act (S.getD j ⟨0, 0, 0⟩), Mj.ans (S.getD j ⟨0, 0, 0⟩)) := by
  have e : S = S.take j ++ (S.getD j ⟨0, 0, 0⟩ :: S.drop (j + 1)) := by
    have : S.getD j ⟨0, 0, 0⟩ = S[j] := by simp [hj]
    rw [this, ← List.drop_eq_getElem_cons hj, List.take_append_drop]
  have h2 : runP M0 (S.take j ++ (S.getD j ⟨0, 0, 0⟩ :: S.drop (j + 1))) = (Mj.act (S.getD j ⟨0, 0, 0⟩), Mj.ans (S.getD j ⟨0, 0, 0⟩)) := by
    rw [runP_app _ _ _ (by rw [h]), h]
    exact runP_no ha _
  rw [← e] at h2; exact h2
theorem logs_take {ys : List RecX} {k : Nat} (hk : k < ys.length) : making ((ys.take (k + 1)).map RecX.log) = making ((ys.take k).map RecX.log) ++ makingP ys[k]!.at_ ys[k]!.cs := by
  have e : ys.take (k + 1) = ys.take k ++ [ys[k]!] := by
    rw [getElem!_pos _ k hk]; exact take_more ys k hk
  rw [e, List.map_append, making_append]
  congr 1
  simp [making, RecX.log]
theorem run_log {M Mk Mj : Mem} {ys : List RecX} {k : Nat} (hk : k < ys.length) (h : runP M (making ((ys.take k).map RecX.log)) = (Mk, 0)) (hj : runP Mk (makingP ys[k]!.at_ ys[k]!.cs) = (Mj, 0)) : runP M (making ((ys.take (k + 1)).map RecX.log)) = (Mj, 0) := by
  rw [logs_take hk, runP_app _ _ _ (by rw [h]), h]; exact hj
theorem run_logfail {M Mk Mj : Mem} {r : Int} {ys : List RecX} {k : Nat} (hk : k < ys.length) (h : runP M (making ((ys.take k).map RecX.log)) = (Mk, 0)) (hr : r ≠ 0) (hj : runP Mk (makingP ys[k]!.at_ ys[k]!.cs) = (Mj, r)) : runP M (making (ys.map RecX.log)) = (Mj, r) := by
  have e : ys.map RecX.log = (ys.take (k + 1)).map RecX.log ++ (ys.drop (k + 1)).map RecX.log := by rw [← List.map_append, List.take_append_drop]
  have h1 : runP M (making ((ys.take (k + 1)).map RecX.log)) = (Mj, r) := by
    rw [logs_take hk, runP_app _ _ _ (by rw [h]), h]; exact hj
  rw [e, making_append, runP_cut _ _ _ (by rw [h1]; exact hr), h1]

theorem OwnRecs.only {w w' : World} {base : Nat} {v : Value} {xs : List RecX} {S : List Nat} (h : OwnRecs w base v xs) (ho : Only S w w') (hS : ∀ k ∈ S, k < base) : OwnRecs w' base v xs :=
  ⟨own_block h.1 fun g hg => ho.block g (World.ownsRow.lt h.1 g hg).2 (fun hm => by have := hS g hm; have := (World.ownsRow.lt h.1 g hg).1; omega), fun x hx => own_block (h.2 x hx) fun g hg => ho.block g (World.ownsRow.lt (h.2 x hx) g hg).2 (fun hm => by have := hS g hm; have := (World.ownsRow.lt (h.2 x hx) g hg).1; omega)⟩
theorem OwnStps.only {w w' : World} {base : Nat} {v : Value} {ss : List Stp} {S : List Nat} (h : OwnStps w base v ss) (ho : Only S w w') (hS : ∀ k ∈ S, k < base) : OwnStps w' base v ss :=
  own_block h fun g hg => ho.block g (World.ownsRow.lt h g hg).2 (fun hm => by have := hS g hm; have := (World.ownsRow.lt h g hg).1; omega)
theorem ownsRow_formK {w : World} {base e s n : Nat} {v : Value} {xs : List Value} (h : w.ownsRow base e s v n xs) : ∃ a c, v = .slice a n c ∧ (n = 0 ∨ ∃ g, a = some ⟨g, 0, none⟩ ∧ base ≤ g) := by
  rcases h.2 with ⟨rfl, h0⟩ | ⟨g, cap, cur, rfl, hb, _⟩
  · exact ⟨none, 0, by rw [h0], .inl h0⟩
  · exact ⟨_, _, rfl, .inr ⟨g, rfl, hb⟩⟩
theorem getD_in {cs : List Chg} {i : Nat} (hi : i < cs.length) : cs.getD i (0, 0) ∈ cs := by simp [hi]
theorem image_at (M : Mem) (i : Nat) (hi : i < M.sure.length) : M.image[i]? = some (M.read i) := by simp [Mem.image, hi]
theorem image_len (M : Mem) : M.image.length = M.sure.length := by simp [Mem.image]
theorem read_wf {w : World} {L : Lay} {M : Mem} (h : MemIs w L M) (k : Int) : 0 ≤ M.read k ∧ M.read k ≤ 18446744073709551615 := by
  unfold Mem.read
  split
  · rename_i hh
    have hb : 0 ≤ k ∧ k < M.sure.length := by simpa [Mem.has] using hh
    cases hl : M.loose k with
    | none =>
      rw [Option.getD_none]
      have hm : M.sure.getD k.toNat 0 ∈ M.sure := by simp [show k.toNat < M.sure.length by omega]
      have := h.words _ hm
      generalize M.sure.getD k.toNat 0 = x at this ⊢
      simp [Lit.wf, IntKind.min, IntKind.max, IntKind.signed, IntKind.bits] at this
      omega
    | some v =>
      have := h.loose.wf hl
      simp [Lit.wf, IntKind.min, IntKind.max, IntKind.signed, IntKind.bits] at this
      simp; omega
  · omega

theorem runP_fits {M M' : Mem} {ss : List Stp} {r : Int} (h : runP M ss = (M', r)) : M'.sure.length = M.sure.length ∧ M'.calls ≤ M.calls + ss.length := by
  have h1 := runP_len M ss
  have h2 := runP_calls M ss
  rw [h] at h1 h2; exact ⟨h1, h2⟩

theorem rec_at {w : World} {base g cap : Nat} {xs : List RecX} (h : OwnRecs w base (.slice (some ⟨g, 0, none⟩) xs.length cap) xs) (k : Nat) (hk : k < xs.length) :
    w.cell? ⟨g, k * 3, none⟩ = some (.int .i64 xs[k]!.at_) ∧ w.cell? ⟨g, k * 3 + 1, none⟩ = some (.int .u64 xs[k]!.num) ∧ w.cell? ⟨g, k * 3 + 2, none⟩ = some (.slice xs[k]!.a xs[k]!.cs.length xs[k]!.c) := by
  have := recVals_at xs k hk
  rw [World.ownsRow.cellAt h.1 _ (by omega), World.ownsRow.cellAt h.1 _ (by omega), World.ownsRow.cellAt h.1 _ (by omega)]
  exact this
theorem stp_at {w : World} {base g cap : Nat} {ss : List Stp} (h : OwnStps w base (.slice (some ⟨g, 0, none⟩) ss.length cap) ss) (k : Nat) (hk : k < ss.length) :
    w.cell? ⟨g, k * 3, none⟩ = some (.int .i64 (ss.getD k ⟨0, 0, 0⟩).kind) ∧ w.cell? ⟨g, k * 3 + 1, none⟩ = some (.int .i64 (ss.getD k ⟨0, 0, 0⟩).at_) ∧ w.cell? ⟨g, k * 3 + 2, none⟩ = some (.int .u64 (ss.getD k ⟨0, 0, 0⟩).v) := by
  have := stpVals_at ss k hk
  rw [World.ownsRow.cellAt h _ (by omega), World.ownsRow.cellAt h _ (by omega), World.ownsRow.cellAt h _ (by omega)]
  exact this

set_option maxHeartbeats 8000000 in
set_option maxRecDepth 100000 in
theorem recover_any (L : Lay) (M : Mem) (w : World) (h : MemIs w L M) (hc : M.calls < 900000000) :
    Calls Try.prog 15 #[.pointer (some ⟨L.mb, 0, none⟩)] w fun e w' => ∃ k r M', e = .returned (.tuple #[.int .i64 k, .int .i64 r]) ∧ MemIs w' L M' ∧ Only L.blocks w w' ∧ RecSpec M k r M' := by
  have hall := h.all_lt
  have HH : Hid (MemIs w L M) := h
  have him := image_any L M w h
  clear h
  go_enter Try.func15, Try.ntmps15
  go_wp2_with (first | (go_at_call 19; refine him.mono ?_; rintro e w1 ⟨rfl, hrow, b1⟩) | fail)
  have hu : UAt w1 (some ⟨w.heap.size, 0, none⟩) M.sure.length (fun i => M.read i) := by
    by_cases h0 : M.sure.length = 0
    · exact .inl h0
    · refine .inr ⟨w.heap.size, 0, rfl, (World.ownsRow.lt hrow _ rfl).2, fun i hi => ?_⟩
      rw [Nat.zero_add, World.ownsRow.cellAt hrow i (by omega), List.getElem?_map, image_at M i hi]; rfl
  have HSE : Hid _ := sealed_any (some ⟨w.heap.size, 0, none⟩) M.sure.length M.sure.length (fun i => M.read i) w1 hu (Nat.le_refl _) (fun i _ => read_wf HH.out i)
  have HM1 : Hid (MemIs w1 L M) := HH.out.below b1 hall
  have HWF : Hid (∀ i : Nat, i < 2824 → 0 ≤ M.read i ∧ M.read i ≤ 18446744073709551615) := fun i _ => read_wf HH.out i
  clear hrow hu him
  go_wp2_with fail
  refine Calls.mono (Hid.out HSE) ?_
  rintro e w2 ⟨b2, v, ok, rfl, hres⟩
  clear HSE
  have b12 := b1.trans (b2.mono b1.size)
  have HM2 : Hid (MemIs w2 L M) := HH.out.below b12 hall
  have hbad : ok = false → ¬ ∃ rs, GoodLogs M.sure.length (fun i => M.read i) rs := by
    rintro hok ⟨rs, g1, g2, g3, g4⟩
    rcases hres with ⟨-, -, ys, hp, hs, hk, -⟩ | ⟨h1, -⟩
    · have := twice_bad (hp.trans g3.symm) g4
      rw [this, hok] at hk; cases hk
    · rcases h1 with h1 | ⟨s, hs, hb⟩
      · rw [g1] at h1; cases h1
      · exact g2 s hs hb
  cases ok with
  | false =>
    have HB : Hid (¬ ∃ rs, GoodLogs M.sure.length (fun i => M.read i) rs) := hbad rfl
    clear hbad hres
    go_wp2
    go_ret2
    exact ⟨0, 15, M, rfl, HM2.out, Only.of_below b12, .inl ⟨HB.out, rfl, rfl, rfl⟩⟩
  | true =>
    obtain ⟨hr1, hr2, ys, hp, hs, hk, hown⟩ := hres.resolve_right (fun h => by cases h.2)
    have hst := sorted_strict hs (by cases ht : twiceP ys with | false => rfl | true => rw [ht] at hk; cases hk)
    have HG : Hid (GoodLogs M.sure.length (fun i => M.read i) (ys.map RecX.log)) := ⟨hr1, hr2, hp, List.pairwise_map.2 hst⟩
    have hlen : M.sure.length = 2824 := rightB_len hr1
    have HOK : Hid (∀ k, k < ys.length → Rec.Ok ys[k]!.log) := fun k hk => by
      refine recs_ok HWF.out hr2 _ (hp.mem_iff.1 (List.mem_map.2 ⟨ys[k]!, ?_, rfl⟩))
      rw [getElem!_pos _ k hk]; exact List.getElem_mem hk
    have hy4 : ys.length ≤ 4 := by
      have := recsTo_len (fun i => M.read i) 4
      rw [← hp.length_eq, List.length_map] at this; exact this
    have HO : Hid (OwnRecs w2 w1.heap.size v ys) := hown
    obtain ⟨va, vc, rfl, hva⟩ := ownsRow_formK hown.1
    have HLN : Hid (M.sure.length = 2824) := hlen
    have HB1 : Hid (∀ k ∈ L.blocks, k < w1.heap.size) := fun k hk => by have := hall k hk; have := b1.size; omega
    obtain ⟨n, hn⟩ : ∃ n, ys.length = n := ⟨_, rfl⟩
    have HN : Hid (ys.length = n) := hn
    have HO12 : Hid (Only L.blocks w w2) := Only.of_below b12
    rw [hn] at hva hy4 ⊢
    clear hr1 hr2 hp hs hk hown hst hlen hbad hn hres
    go_wp2
    go_loopw [23] (fun i wr => ∃ (k : Nat) (Mk : Mem), k ≤ n ∧ i = .int .i64 k ∧ Hid (MemIs wr L Mk) ∧ Hid (runP M (making ((ys.take k).map RecX.log)) = (Mk, 0)) ∧ Hid (OwnRecs wr w1.heap.size (.slice va n vc) ys) ∧ Only L.blocks w wr ∧ Hid (w2.heap.size ≤ wr.heap.size)) (fun i _ => n - (intOf i).toNat)
    case atStart => exact ⟨0, M, Nat.zero_le _, rfl, HM2.out, rfl, (by have := HO.out; rw [HN.out] at this; exact this), HO12.out, Nat.le_refl _⟩
    case round =>
      obtain ⟨k, Mk, hk, rfl, hm, hrun, hown, hon, hsz⟩ := hrel
      by_cases hlt : k < n
      · rcases hva with h0 | ⟨g, rfl, hg⟩
        · omega
        have hkn : (k : Int) < (n : Int) := by omega
        have hown' : OwnRecs wr w1.heap.size (.slice (some ⟨g, 0, none⟩) ys.length vc) ys := by rw [HN.out]; exact hown.out
        obtain ⟨x0, x1, x2⟩ := rec_at hown' k (by rw [HN.out]; exact hlt)
        have hch : OwnChgs wr w1.heap.size (.slice ys[k]!.a ys[k]!.cs.length ys[k]!.c) ys[k]!.cs := hown'.2 _ (by rw [getElem!_pos _ k (by rw [HN.out]; exact hlt)]; exact List.getElem_mem _)
        have hat : ChgsAt wr ys[k]!.a ys[k]!.cs := by
          obtain ⟨a, c, e, -, h, -⟩ := hch.at
          simp only [Value.slice.injEq] at e
          obtain ⟨rfl, -, -⟩ := e
          exact h
        have hok := HOK.out k (by rw [HN.out]; exact hlt)
        have HLG : Hid (∀ Mj, runP Mk (makingP ys[k]!.at_ ys[k]!.cs) = (Mj, 0) → runP M (making ((ys.take (k + 1)).map RecX.log)) = (Mj, 0)) := fun Mj h => run_log (by rw [HN.out]; exact hlt) hrun.out h
        have HLF : Hid (∀ Mj r, r ≠ 0 → runP Mk (makingP ys[k]!.at_ ys[k]!.cs) = (Mj, r) → runP M (making (ys.map RecX.log)) = (Mj, r)) := fun Mj r hr h => run_logfail (by rw [HN.out]; exact hlt) hrun.out hr h
        have hcalls : Mk.calls ≤ M.calls + 4 * 829 ∧ Mk.sure.length = 2824 := by
          obtain ⟨h1, h2⟩ := runP_fits hrun.out
          have h3 := making_lens (rs := (ys.take k).map RecX.log) (fun r hr => by
            obtain ⟨x, hx, rfl⟩ := List.mem_map.1 hr
            obtain ⟨i, hi, rfl⟩ := List.mem_iff_getElem.1 (List.mem_of_mem_take hx)
            have := HOK.out i hi
            rw [getElem!_pos _ i hi] at this; exact this)
          rw [List.length_map, List.length_take] at h3
          refine ⟨by omega, by rw [h1]; exact HLN.out⟩
        have hlog : 0 ≤ ys[k]!.at_ ∧ ys[k]!.at_ < 2824 := by
          obtain ⟨_, _, s, hs, e⟩ := hok
          have e' : ys[k]!.at_ = logAt s := e
          have hla : logAt s = 296 + 248 * s := rfl
          omega
        have hin : ∀ i, i < ys[k]!.cs.length → 0 ≤ (ys[k]!.cs.getD i (0, 0)).1 ∧ (ys[k]!.cs.getD i (0, 0)).1 < 2824 := fun i hi => rightP_inside (cs := ys[k]!.cs) hok.1 _ (getD_in hi)
        have hfit : StpsFit (makingP ys[k]!.at_ ys[k]!.cs) := making_fit (r := ys[k]!.log) hok
        have hml : (makingP ys[k]!.at_ ys[k]!.cs).length ≤ 829 := making_len (r := ys[k]!.log) hok
        have hcl : ys[k]!.cs.length ≤ 120 := (rightP_ok (cs := ys[k]!.cs) hok.1).1
        have HMK : Hid (∀ w3, Below wr.heap.size wr w3 → Calls Try.prog 34 #[.int .i64 ys[k]!.at_, .slice ys[k]!.a ys[k]!.cs.length ys[k]!.c] w3 fun e w' => ∃ v, e = .returned v ∧ OwnStps w' w3.heap.size v (makingP ys[k]!.at_ ys[k]!.cs) ∧ Below w3.heap.size w3 w') :=
          fun w3 h3 => making_any ys[k]!.at_ ys[k]!.a ys[k]!.c ys[k]!.cs w3 (hat.later (Nat.le_refl _) h3) hin (by omega) hlog
        obtain ⟨X0, hX0⟩ : ∃ X, ys[k]!.at_ = X := ⟨_, rfl⟩
        obtain ⟨X1, hX1⟩ : ∃ X, ys[k]!.num = X := ⟨_, rfl⟩
        obtain ⟨X2, hX2⟩ : ∃ X, ys[k]!.a = X := ⟨_, rfl⟩
        obtain ⟨X3, hX3⟩ : ∃ X, ys[k]!.c = X := ⟨_, rfl⟩
        obtain ⟨CS, hCS⟩ : ∃ X, ys[k]!.cs = X := ⟨_, rfl⟩
        rw [hX0] at x0
        rw [hX1] at x1
        rw [hX2, hX3, hCS] at x2
        rw [hX0, hCS] at HLG HLF hfit hml
        rw [hX0, hX2, hX3, hCS] at HMK
        obtain ⟨SS, hSS⟩ : ∃ S, makingP X0 CS = S := ⟨_, rfl⟩
        rw [hSS] at HLG HLF HMK hfit hml
        obtain ⟨cl, hcl'⟩ : ∃ n, CS.length = n := ⟨_, rfl⟩
        rw [hcl'] at HMK x2
        have HFT : Hid (StpsFit SS) := hfit
        clear hown' hch hat hok hlog hin hfit hX0 hX1 hX2 hX3 hCS hSS hcl hcl' hrun
        go_wp2_with fail
        have ba : Below wr.heap.size wr (wr.alloc (.cells #[.int .i64 X0, .int .u64 X1, .slice X2 cl X3] 81)) := (Below.refl _ _).alloc (Nat.le_refl _) _
        refine Calls.mono (Hid.out HMK _ ba) ?_
        rintro e w3 ⟨vs, rfl, hos, b3⟩
        have bw3 : Below wr.heap.size wr w3 := ba.trans (b3.mono ba.size)
        have HOW : Hid (Only L.blocks w w3) := hon.trans (Only.of_below bw3)
        have HM3 : Hid (MemIs w3 L Mk) := hm.out.below bw3 hm.out.all_lt
        have HR3 : Hid (OwnRecs w3 w1.heap.size (.slice (some ⟨g, 0, none⟩) n vc) ys) := hown.out.later (Nat.le_refl _) bw3
        have HS3 : Hid (OwnStps w3 w1.heap.size vs SS) := ownsRow_base_a hos (by have := hsz.out; have := b2.size; have := ba.size; omega)
        have HZ3 : Hid (w2.heap.size ≤ w3.heap.size) := by show w2.heap.size ≤ w3.heap.size; have := hsz.out; have := bw3.size; omega
        obtain ⟨sa, sc, rfl, hsa⟩ := ownsRow_formK hos
        obtain ⟨sn, hsn⟩ : ∃ n, SS.length = n := ⟨_, rfl⟩
        have HSN : Hid (SS.length = sn) := hsn
        have HS3' : Hid (OwnStps w3 w1.heap.size (.slice sa sn sc) SS) := by rw [← hsn]; exact HS3.out
        rw [hsn] at hsa hml ⊢
        clear HMK hos b3 ba bw3 hsn HS3 hm hown hon hsz
        go_wp2
        go_loopw [33] (fun i wr => ∃ (j : Nat) (Mj : Mem), j ≤ sn ∧ i = .int .i64 j ∧ Hid (MemIs wr L Mj) ∧ Hid (runP Mk (SS.take j) = (Mj, 0)) ∧ Hid (OwnStps wr w1.heap.size (.slice sa sn sc) SS) ∧ Hid (OwnRecs wr w1.heap.size (.slice (some ⟨g, 0, none⟩) n vc) ys) ∧ Hid (Only L.blocks w wr) ∧ Hid (w2.heap.size ≤ wr.heap.size)) (fun i _ => sn - (intOf i).toNat)
        case atStart => exact ⟨0, Mk, Nat.zero_le _, rfl, HM3.out, rfl, HS3'.out, HR3.out, HOW.out, HZ3.out⟩
        case round =>
          obtain ⟨j, Mj, hj, rfl, hm, hrun, hos, hown, hon, hsz⟩ := hrel
          by_cases hlt2 : j < sn
          · rcases hsa with h0 | ⟨gs, rfl, hgs⟩
            · omega
            have hjn : (j : Int) < (sn : Int) := by omega
            have hos' : OwnStps wr w1.heap.size (.slice (some ⟨gs, 0, none⟩) SS.length sc) SS := by rw [HSN.out]; exact hos.out
            have hjl : j < SS.length := by rw [HSN.out]; exact hlt2
            obtain ⟨y0, y1, y2⟩ := stp_at hos' j hjl
            have hcj : Mj.calls < 1000000000 := by have := (runP_fits hrun.out).2; rw [List.length_take] at this; omega
            have hdo := fun w => do_any L Mj (SS.getD j ⟨0, 0, 0⟩) w
            have hok1 : (SS.getD j ⟨0, 0, 0⟩).Ok := (HFT.out _ (by simp [hjl])).1
            have HST : Hid (Mj.ans (SS.getD j ⟨0, 0, 0⟩) = 0 → runP Mk (SS.take (j + 1)) = (Mj.act (SS.getD j ⟨0, 0, 0⟩), 0)) := run_step hjl hrun.out
            have HSF : Hid (Mj.ans (SS.getD j ⟨0, 0, 0⟩) ≠ 0 → runP Mk SS = (Mj.act (SS.getD j ⟨0, 0, 0⟩), Mj.ans (SS.getD j ⟨0, 0, 0⟩))) := run_fail hjl hrun.out
            obtain ⟨s, hs⟩ : ∃ s, SS.getD j ⟨0, 0, 0⟩ = s := ⟨_, rfl⟩
            rw [hs] at y0 y1 y2 hdo hok1 HST HSF
            obtain ⟨K, A, V⟩ := s
            obtain ⟨ans, hans⟩ : ∃ r, Mj.ans ⟨K, A, V⟩ = r := ⟨_, rfl⟩
            obtain ⟨act, hact⟩ : ∃ r, Mj.act ⟨K, A, V⟩ = r := ⟨_, rfl⟩
            rw [hans, hact] at HST HSF
            have HDO : Hid (∀ w2, Below wr.heap.size wr w2 → Calls Try.prog 21 #[.pointer (some ⟨L.mb, 0, none⟩), .agg #[.int .i64 K, .int .i64 A, .int .u64 V]] w2 fun e w' => e = .returned (.int .i64 ans) ∧ MemIs w' L act ∧ Only L.blocks w2 w') := fun w2 hb2 => by
              have := hdo w2 (hm.out.below hb2 hm.out.all_lt) hcj hok1
              rw [hans, hact] at this; exact this
            clear hdo hok1 hs hans hact hos' hrun
            go_wp2_with fail
            have ba : Below wr.heap.size wr (wr.alloc (.cells #[.int .i64 K, .int .i64 A, .int .u64 V] 34)) := (Below.refl _ _).alloc (Nat.le_refl _) _
            refine Calls.mono (Hid.out HDO _ ba) ?_
            rintro e w4 ⟨rfl, hm4, ho4⟩
            have ho5 : Only L.blocks wr w4 := (Only.of_below ba).trans ho4
            have HM4 : Hid (MemIs w4 L act) := hm4
            have HO4 : Hid (Only L.blocks w w4) := hon.out.trans ho5
            have HR4 : Hid (OwnRecs w4 w1.heap.size (.slice (some ⟨g, 0, none⟩) n vc) ys) := hown.out.only ho5 HB1.out
            have HS4 : Hid (OwnStps w4 w1.heap.size (.slice (some ⟨gs, 0, none⟩) sn sc) SS) := hos.out.only ho5 HB1.out
            have HZ4 : Hid (w2.heap.size ≤ w4.heap.size) := by show w2.heap.size ≤ w4.heap.size; have := hsz.out; have := ho5.size; omega
            clear hm4 ho4 ho5 ba hm hon hown hos hsz HDO
            by_cases ha : ans = 0
            · subst ha
              go_wp2
              go_roundw
              case rel => exact ⟨j + 1, act, by omega, by go_num, HM4.out, HST.out trivial, HS4.out, HR4.out, HO4.out, HZ4.out⟩
              case measure => simp [intOf]; omega
            · have hb : (ans != 0) = true := by simpa using ha
              have HA : Hid (¬ ans = 0) := ha
              have HF := HLF.out act ans ha (HSF.out ha)
              have HFF : Hid (runP M (making (ys.map RecX.log)) = (act, ans)) := HF
              clear ha HF
              go_wp2
              go_ret2
              exact ⟨0, ans, act, rfl, HM4.out, HO4.out, .inr ⟨_, HG.out, by rw [HFF.out], by rw [HFF.out], by rw [if_neg HA.out]⟩⟩
          · obtain rfl : j = sn := by omega
            have hfull : SS.take j = SS := List.take_of_length_le (by rw [HSN.out]; exact Nat.le_refl _)
            rw [hfull] at hrun
            have HLL := HLG.out Mj hrun.out
            have HLX : Hid (runP M (making ((ys.take (k + 1)).map RecX.log)) = (Mj, 0)) := HLL
            clear HLL hrun hfull
            go_wp2
            go_roundw
            case rel => exact ⟨k + 1, Mj, by omega, by go_num, hm.out, HLX.out, hown.out, hon.out, hsz.out⟩
            case measure => simp [intOf]; omega
      · obtain rfl : k = n := by omega
        have hfull : ys.take k = ys := List.take_of_length_le (by rw [HN.out]; exact Nat.le_refl _)
        rw [hfull] at hrun
        go_wp2
        go_ret2
        exact ⟨k, 0, Mk, rfl, hm.out, hon, .inr ⟨_, HG.out, by rw [hrun.out], by rw [hrun.out], by rw [if_pos rfl, List.length_map, HN.out]⟩⟩

end Go.Proofs.Ytfalchacdebdpaa
