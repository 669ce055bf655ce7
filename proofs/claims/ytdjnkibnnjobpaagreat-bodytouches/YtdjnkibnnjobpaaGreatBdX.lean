/- The first fifty steps; whether a file is whole. -/
import Derived.Test.YtdjnkibnnjobpaaGreatBdW
import Derived.Test.YtdjnkibnnjobpaaGreatCdRefRight
namespace Go.Proofs.YtdjnkibnnjobpaaGreat
open Go.RowKit Go.Maps Go.ChangeMaps

theorem BopsIn.take {W : World} {a : Option Addr} {cap : Nat} {ops : List Bop} (h : BopsIn W a cap ops) (n : Nat) : BopsIn W a cap (ops.take n) := by
  refine ⟨by have := h.le; simp; omega, h.max, h.none, ?_⟩
  rcases h.at_ with e | ⟨b, off, ea, hb, hs⟩
  · left; simp [e]
  · right
    refine ⟨b, off, ea, hb, fun i hi => ?_⟩
    simp at hi
    have := hs i (by omega)
    have e2 : (ops.take n).getD i noBop = ops.getD i noBop := by
      have h60 : i < n := by omega
      simp [List.getD, h60]
    rw [e2]; exact this
theorem early_any (W w : World) (a : Option Addr) (cap : Nat) (ops : List Bop) (h : BopsIn W a cap ops) :
    Calls Tryz.prog 9 #[.slice a ops.length cap] w fun e w' => e = .returned (.slice a (ops.take 50).length cap) ∧ w' = w := by
  have h1 := h.le
  have h2 := h.max
  cases a with
  | none =>
    have h3 := h.none rfl
    subst h3
    obtain rfl : ops = [] := List.length_eq_zero_iff.1 (by omega)
    go_enter Tryz.func9, Tryz.ntmps9
    go_wp2
    go_ret
    exact ⟨rfl, rfl⟩
  | some x =>
    obtain ⟨k, hk⟩ : ∃ k : Nat, min (ops.length : Int) 50 = (k : Int) := ⟨(min (ops.length : Int) 50).toNat, by omega⟩
    have hkl : (ops.take 50).length = k := by simp; omega
    rw [hkl]
    have h5 : k ≤ cap := by omega
    clear h1 hkl h
    go_enter Tryz.func9, Tryz.ntmps9
    go_wp2
    go_ret
    exact ⟨rfl, rfl⟩
theorem pick0 (p q : Value) (w : World) : (Instr.index 25 (.agg #[p, q]) (.int .i64 0)).run Tryz.prog w = .ok p w := by kernel_rfl
theorem pick1 (p q : Value) (w : World) : (Instr.index 25 (.agg #[p, q]) (.int .i64 1)).run Tryz.prog w = .ok q w := by kernel_rfl
/-- The whole of a file. -/
theorem docR_all (t : ByteArray) (h : t.size ≤ 4096) : docR t 0 4096 = t := by
  unfold docR
  rw [show min (0 + 4096) t.size - 0 = t.size by omega]
  refine (Wd.mkB_congr fun i _ => ?_).trans (Wd.mkB_bAt t)
  rw [Nat.zero_add]
theorem FOk.right {W : Int → Int} {node : Int} {c : Crd} {t : ByteArray} (h : FOk W node c t) : Cd.Rt c.k c.l c.s c.d0 c.d1 c.d2 c.d3 c.d4 c.m := by
  have hF := h.file.1
  obtain ⟨h1, h2, h3⟩ := h.kind
  have hs := h.size
  have hl := h.le
  have d0 := hF.rng 0 (by omega)
  have d1 := hF.rng 1 (by omega)
  have d2 := hF.rng 2 (by omega)
  have d3 := hF.rng 3 (by omega)
  have d4 := hF.rng 4 (by omega)
  have hm := hF.mrng
  simp only [mapF, dirF] at d0 d1 d2 d3 d4
  right
  unfold Cd.Fl Cd.Bk
  simp at d0 d1 d2 d3 d4
  omega
set_option maxHeartbeats 4000000 in
set_option maxRecDepth 100000 in
theorem whole_any (b : Nat) (V : VLay) (Sv : Vw) (L : Lay) (M : Mem) (q : Nat) (node : Int) (c : Crd) (t : ByteArray) (w : World) (h : FSt w b V Sv L M q node c t) :
    Calls Tryz.prog 11 #[.pointer (some ⟨b, 0, none⟩)] w fun e w' => e = .returned (.bool true) ∧ Below w.heap.size w w' := by
  have HST : Hid (FSt w b V Sv L M q node c t) := h
  have hW : Sv.word M = M.read := funext h.rest.word
  have HRD : Hid (∀ w1, Below w.heap.size w w1 → Calls Tryz.prog 14 #[.pointer (some ⟨V.vb, 0, none⟩), .agg #[.int .i64 c.k, .int .i64 c.l, .int .i64 c.s, .int .u64 c.v, .int .i64 c.d0, .int .i64 c.d1, .int .i64 c.d2, .int .i64 c.d3, .int .i64 c.d4, .int .i64 c.m], .int .i64 0, .int .i64 4096] w1 fun e w' => e = .returned (.tuple #[.string t, .int .i64 0]) ∧ Below w1.heap.size w1 w') := fun w1 hb => by
    have hx := pread_any w1 V Sv 0 L M node c t 0 4096 (h.rest.on.later hb) (by rw [hW]; exact h.ok) (by omega)
    have e : docRE t 0 4096 = (t, 0) := by
      unfold docRE
      rw [if_neg (by omega)]
      exact congrArg (fun x => (x, (0 : Int))) (docR_all t (by have := h.ok.le; omega))
    rw [e] at hx
    exact hx
  have HRT : Hid (∀ w1, Calls Tryz.prog 26 #[.agg #[.int .i64 c.k, .int .i64 c.l, .int .i64 c.s, .int .u64 c.v, .int .i64 c.d0, .int .i64 c.d1, .int .i64 c.d2, .int .i64 c.d3, .int .i64 c.d4, .int .i64 c.m]] w1 fun e w' => e = .returned (.bool true) ∧ Below w1.heap.size w1 w') := fun w1 => Cd.refRight_yes c.k c.l c.s c.v c.d0 c.d1 c.d2 c.d3 c.d4 c.m w1 h.ok.right
  have hsz : (c.s == (t.size : Int)) = true := by rw [h.ok.size]; simp
  clear h hW
  have f0 := HST.out.obj.c0
  have f3 := HST.out.obj.c3
  have f4 := HST.out.obj.c4
  have f5 := HST.out.obj.c5
  have f6 := HST.out.obj.c6
  have f7 := HST.out.obj.c7
  have f8 := HST.out.obj.c8
  have f9 := HST.out.obj.c9
  have f10 := HST.out.obj.c10
  have f11 := HST.out.obj.c11
  have f12 := HST.out.obj.c12
  have f13 := HST.out.obj.c13
  go_enter Tryz.func11, Tryz.ntmps11
  go_wp2
  go_region_held3 (fun v' => v'.cell? ⟨b, 0, none⟩ = some (.pointer (some ⟨V.vb, 0, none⟩)) ∧ v'.cell? ⟨b, 3, none⟩ = some (.int .i64 c.k) ∧ v'.cell? ⟨b, 4, none⟩ = some (.int .i64 c.l) ∧ v'.cell? ⟨b, 5, none⟩ = some (.int .i64 c.s) ∧ v'.cell? ⟨b, 6, none⟩ = some (.int .u64 c.v) ∧ v'.cell? ⟨b, 7, none⟩ = some (.int .i64 c.d0) ∧ v'.cell? ⟨b, 8, none⟩ = some (.int .i64 c.d1) ∧ v'.cell? ⟨b, 9, none⟩ = some (.int .i64 c.d2) ∧ v'.cell? ⟨b, 10, none⟩ = some (.int .i64 c.d3) ∧ v'.cell? ⟨b, 11, none⟩ = some (.int .i64 c.d4) ∧ v'.cell? ⟨b, 12, none⟩ = some (.int .i64 c.m) ∧ v'.cell? ⟨b, 13, none⟩ = some (.string t)) (first | go_keep | fail "KEEP")
    (first
      | (go_at_call 14; refine Calls.mono (HRD.out _ (by first | exact Below.refl _ _ | exact (Below.refl _ _).drew)) ?_; rintro e w5 ⟨rfl, hb5⟩; have HB5 : Hid (Below w.heap.size w w5) := (by first | exact hb5 | exact (Below.refl _ _).drew.trans hb5); clear hb5; have HF5 : Hid (FObjC w5 b V.vb L.mb node c t) := HST.out.obj.later HB5.out; have f0 := HF5.out.c0; have f3 := HF5.out.c3; have f4 := HF5.out.c4; have f5 := HF5.out.c5; have f6 := HF5.out.c6; have f7 := HF5.out.c7; have f8 := HF5.out.c8; have f9 := HF5.out.c9; have f10 := HF5.out.c10; have f11 := HF5.out.c11; have f12 := HF5.out.c12; have f13 := HF5.out.c13))
  all_goals
    clear f0
    go_wp2
    go_region_held3 (fun v' => v'.cell? ⟨b, 3, none⟩ = some (.int .i64 c.k) ∧ v'.cell? ⟨b, 4, none⟩ = some (.int .i64 c.l) ∧ v'.cell? ⟨b, 5, none⟩ = some (.int .i64 c.s) ∧ v'.cell? ⟨b, 6, none⟩ = some (.int .u64 c.v) ∧ v'.cell? ⟨b, 7, none⟩ = some (.int .i64 c.d0) ∧ v'.cell? ⟨b, 8, none⟩ = some (.int .i64 c.d1) ∧ v'.cell? ⟨b, 9, none⟩ = some (.int .i64 c.d2) ∧ v'.cell? ⟨b, 10, none⟩ = some (.int .i64 c.d3) ∧ v'.cell? ⟨b, 11, none⟩ = some (.int .i64 c.d4) ∧ v'.cell? ⟨b, 12, none⟩ = some (.int .i64 c.m) ∧ v'.cell? ⟨b, 13, none⟩ = some (.string t)) (first | go_keep | fail "KEEP2")
      (first
        | (go_at_call 26; refine Calls.mono (HRT.out _) ?_; rintro e w6 ⟨rfl, hb6⟩; have HB6 : Hid (Below w5.heap.size w5 w6) := (by first | exact hb6 | exact (Below.refl _ _).drew.trans hb6); clear hb6; have HF6 : Hid (FObjC w6 b V.vb L.mb node c t) := HF5.out.later HB6.out; have f3 := HF6.out.c3; have f4 := HF6.out.c4; have f5 := HF6.out.c5; have f6 := HF6.out.c6; have f7 := HF6.out.c7; have f8 := HF6.out.c8; have f9 := HF6.out.c9; have f10 := HF6.out.c10; have f11 := HF6.out.c11; have f12 := HF6.out.c12; have f13 := HF6.out.c13))
  all_goals
    go_wp2
    go_ret
    exact ⟨by first | rfl | simp, HB5.out.trans (HB6.out.mono HB5.out.size)⟩

end Go.Proofs.YtdjnkibnnjobpaaGreat
