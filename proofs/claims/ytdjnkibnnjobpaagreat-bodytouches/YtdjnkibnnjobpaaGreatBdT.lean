/- What end makes of a file where it is refused, or there is no room: nothing changes. A step's kind. -/
import Derived.Test.YtdjnkibnnjobpaaGreatBdQ
import Derived.Test.YtdjnkibnnjobpaaGreatBdR
namespace Go.Proofs.YtdjnkibnnjobpaaGreat
open Go.RowKit Go.Maps Go.ChangeMaps

set_option maxHeartbeats 2000000 in
set_option maxRecDepth 100000 in
theorem end_same (V : VLay) (S : Vw) (N : Nat) (L : Lay) (M : Mem) (b : Nat) (node k l s v d0 d1 d2 d3 d4 m k' l' s' v' e0 e1 e2 e3 e4 m' x : Int) (t0 t : ByteArray) (q : Nat) (w : World) (h : On w V S N L M) (ha : S.away = Vw.new.away) (hs : M.stops = false) (hl : M.sure.length = 2824) (hq : M.calls ≤ q)
    (hf : FObj w b V.vb L.mb node k l s v d0 d1 d2 d3 d4 m t0) (hbV : b ∉ V.all) (hx : x ≠ 0) :
    Calls Tryz.prog 16 #[.pointer (some ⟨b, 0, none⟩), .agg #[.int .i64 k', .int .i64 l', .int .i64 s', .int .u64 v', .int .i64 e0, .int .i64 e1, .int .i64 e2, .int .i64 e3, .int .i64 e4, .int .i64 m'], .string t, .int .i64 x, .int .i64 x] w fun e w' => e = .returned (.bool true) ∧ ∃ G S' M', w.heap.size ≤ G ∧ Rest w' (V.anew G) S' L M' q ∧ M' = M ∧ FObj w' b V.vb L.mb node k l s v d0 d1 d2 d3 d4 m t0 ∧ Only [V.vb] w w' := by
  have H : Hid (On w V S N L M) := h
  have HF : Hid (FObj w b V.vb L.mb node k l s v d0 d1 d2 d3 d4 m t0) := hf
  have HBV : Hid (b ∉ V.all) := hbV
  have HLL : Hid (∀ j ∈ L.blocks, j < w.heap.size) := h.mem.all_lt
  have HST : Hid (M.stops = false ∧ M.sure.length = 2824 ∧ M.calls ≤ q) := ⟨hs, hl, hq⟩
  have HAW : Hid (S.away = Vw.new.away) := ha
  have hxe : (x == 0) = false := by simpa using hx
  clear hx
  clear h hf hbV ha hs hl hq
  go_enter Tryz.func16, Tryz.ntmps16
  have hba : Below w.heap.size w (w.alloc (.cells #[.int .i64 k', .int .i64 l', .int .i64 s', .int .u64 v', .int .i64 e0, .int .i64 e1, .int .i64 e2, .int .i64 e3, .int .i64 e4, .int .i64 m'] 39)) := (Below.refl _ _).alloc (Nat.le_refl _) _
  have HFa := HF.out.later hba
  have f0 := HFa.c0
  have HFA : Hid (FObj (w.alloc (.cells #[.int .i64 k', .int .i64 l', .int .i64 s', .int .u64 v', .int .i64 e0, .int .i64 e1, .int .i64 e2, .int .i64 e3, .int .i64 e4, .int .i64 m'] 39)) b V.vb L.mb node k l s v d0 d1 d2 d3 d4 m t0) := HFa
  have HBA : Hid _ := hba
  have HONa : Hid (On (w.alloc (.cells #[.int .i64 k', .int .i64 l', .int .i64 s', .int .u64 v', .int .i64 e0, .int .i64 e1, .int .i64 e2, .int .i64 e3, .int .i64 e4, .int .i64 m'] 39)) V S N L M) := H.out.later hba
  have HRS : Hid _ := vreset_any V S N _ HONa.out.view
  clear hba HFa
  go_wp2_with fail
  refine Calls.mono (Hid.out HRS) ?_
  rintro e w7 ⟨rfl, hv7, ho7⟩
  have HV7 : Hid _ := hv7
  have HO7 : Hid _ := ho7
  clear hv7 ho7 f0
  go_wp2
  go_ret
  have hvbn : V.vb ∈ V.all := by simp [VLay.all, VLay.blocks]
  have hM7 : MemIs w7 L M := HONa.out.mem.kept HO7.out (fun j hj hx => by simp at hx; subst hx; exact H.out.vl _ hj hvbn)
  refine ⟨rfl, _, S.clean, M, HBA.out.size, ⟨⟨HV7.out, hM7, H.out.mb, fun j hj hx => ?_⟩, fun _ => rfl, HAW.out, HST.out.1, HST.out.2.1, HST.out.2.2⟩, rfl, HFA.out.only HO7.out (fun hm => by simp at hm; subst hm; exact HBV.out hvbn), (Only.of_below HBA.out).trans HO7.out⟩
  have h1 := HLL.out j hj
  have h2 := HBA.out.size
  have h3 : j ∉ V.all := H.out.vl j hj
  simp only [VLay.anew, VLay.all, VLay.blocks, List.mem_append, List.mem_cons, List.not_mem_nil, or_false, Option.mem_toList] at hx h3
  rcases hx with ((e | e | e | e) | e) | e
  · exact h3 (.inl (.inl (.inl e)))
  · omega
  · omega
  · omega
  · exact h3 (.inl (.inr e))
  · exact h3 (.inr e)
set_option maxHeartbeats 2000000 in
set_option maxRecDepth 100000 in
theorem end_space (V : VLay) (S : Vw) (N : Nat) (L : Lay) (M : Mem) (b : Nat) (node k l s v d0 d1 d2 d3 d4 m k' l' s' v' e0 e1 e2 e3 e4 m' : Int) (t0 t : ByteArray) (q : Nat) (w : World) (h : On w V S N L M) (ha : S.away = Vw.new.away) (hs : M.stops = false) (hl : M.sure.length = 2824) (hq : M.calls ≤ q)
    (hf : FObj w b V.vb L.mb node k l s v d0 d1 d2 d3 d4 m t0) (hbV : b ∉ V.all)  :
    Calls Tryz.prog 16 #[.pointer (some ⟨b, 0, none⟩), .agg #[.int .i64 k', .int .i64 l', .int .i64 s', .int .u64 v', .int .i64 e0, .int .i64 e1, .int .i64 e2, .int .i64 e3, .int .i64 e4, .int .i64 m'], .string t, .int .i64 9, .int .i64 0] w fun e w' => e = .returned (.bool true) ∧ ∃ G S' M', w.heap.size ≤ G ∧ Rest w' (V.anew G) S' L M' q ∧ M' = M ∧ FObj w' b V.vb L.mb node k l s v d0 d1 d2 d3 d4 m t0 ∧ Only [V.vb] w w' := by
  have H : Hid (On w V S N L M) := h
  have HF : Hid (FObj w b V.vb L.mb node k l s v d0 d1 d2 d3 d4 m t0) := hf
  have HBV : Hid (b ∉ V.all) := hbV
  have HLL : Hid (∀ j ∈ L.blocks, j < w.heap.size) := h.mem.all_lt
  have HST : Hid (M.stops = false ∧ M.sure.length = 2824 ∧ M.calls ≤ q) := ⟨hs, hl, hq⟩
  have HAW : Hid (S.away = Vw.new.away) := ha
  clear h hf hbV ha hs hl hq
  go_enter Tryz.func16, Tryz.ntmps16
  have hba : Below w.heap.size w (w.alloc (.cells #[.int .i64 k', .int .i64 l', .int .i64 s', .int .u64 v', .int .i64 e0, .int .i64 e1, .int .i64 e2, .int .i64 e3, .int .i64 e4, .int .i64 m'] 39)) := (Below.refl _ _).alloc (Nat.le_refl _) _
  have HFa := HF.out.later hba
  have f0 := HFa.c0
  have HFA : Hid (FObj (w.alloc (.cells #[.int .i64 k', .int .i64 l', .int .i64 s', .int .u64 v', .int .i64 e0, .int .i64 e1, .int .i64 e2, .int .i64 e3, .int .i64 e4, .int .i64 m'] 39)) b V.vb L.mb node k l s v d0 d1 d2 d3 d4 m t0) := HFa
  have HBA : Hid _ := hba
  have HONa : Hid (On (w.alloc (.cells #[.int .i64 k', .int .i64 l', .int .i64 s', .int .u64 v', .int .i64 e0, .int .i64 e1, .int .i64 e2, .int .i64 e3, .int .i64 e4, .int .i64 m'] 39)) V S N L M) := H.out.later hba
  have HRS : Hid _ := vreset_any V S N _ HONa.out.view
  clear hba HFa
  go_wp2_with fail
  refine Calls.mono (Hid.out HRS) ?_
  rintro e w7 ⟨rfl, hv7, ho7⟩
  have HV7 : Hid _ := hv7
  have HO7 : Hid _ := ho7
  clear hv7 ho7 f0
  go_wp2
  go_ret
  have hvbn : V.vb ∈ V.all := by simp [VLay.all, VLay.blocks]
  have hM7 : MemIs w7 L M := HONa.out.mem.kept HO7.out (fun j hj hx => by simp at hx; subst hx; exact H.out.vl _ hj hvbn)
  refine ⟨rfl, _, S.clean, M, HBA.out.size, ⟨⟨HV7.out, hM7, H.out.mb, fun j hj hx => ?_⟩, fun _ => rfl, HAW.out, HST.out.1, HST.out.2.1, HST.out.2.2⟩, rfl, HFA.out.only HO7.out (fun hm => by simp at hm; subst hm; exact HBV.out hvbn), (Only.of_below HBA.out).trans HO7.out⟩
  have h1 := HLL.out j hj
  have h2 := HBA.out.size
  have h3 : j ∉ V.all := H.out.vl j hj
  simp only [VLay.anew, VLay.all, VLay.blocks, List.mem_append, List.mem_cons, List.not_mem_nil, or_false, Option.mem_toList] at hx h3
  rcases hx with ((e | e | e | e) | e) | e
  · exact h3 (.inl (.inl (.inl e)))
  · omega
  · omega
  · omega
  · exact h3 (.inl (.inr e))
  · exact h3 (.inr e)
/-- A step's kind. -/
def Bop.k (o : Bop) : Int := (IntKind.u64.wrap o.kind).tmod 3
theorem kind_three (x : Int) : (IntKind.u64.wrap x).tmod 3 = 0 ∨ (IntKind.u64.wrap x).tmod 3 = 1 ∨ (IntKind.u64.wrap x).tmod 3 = 2 := by
  have h : 0 ≤ IntKind.u64.wrap x := by rw [IntKind.wrap_u64]; omega
  rw [Int.tmod_eq_emod_of_nonneg h]
  omega
set_option maxRecDepth 100000 in
theorem kind_any (o : Bop) (w : World) : Calls Tryz.prog 21 #[.agg #[.int .i64 o.kind, .int .i64 o.at_, .int .i64 o.n, .string o.data]] w fun e w' => e = .returned (.int .i64 o.k) ∧ Below w.heap.size w w' := by
  have hk := kind_three o.kind
  have hw : IntKind.i64.wrap ((IntKind.u64.wrap o.kind).tmod 3) = (IntKind.u64.wrap o.kind).tmod 3 := by rw [IntKind.wrap_i64]; omega
  have HB : Hid (∀ x : Obj, Below w.heap.size w (w.alloc x)) := fun x => (Below.refl _ _).alloc (Nat.le_refl _) _
  unfold Bop.k
  clear hk
  go_enter Tryz.func21, Tryz.ntmps21
  go_wp2
  go_ret
  exact ⟨ret_int (by first | rfl | simp [hw]), HB.out _⟩

set_option maxHeartbeats 4000000 in
set_option maxRecDepth 100000 in
theorem rwrite_yes (s : ByteArray) (at_ : Nat) (d : ByteArray) (w : World) (hs : s.size ≤ 2688) (hd0 : 0 < d.size) (hd : d.size ≤ 400) (hE : at_ + d.size ≤ 2688) :
    Calls Tryz.prog 22 #[.string s, .int .i64 at_, .string d] w fun e w' => e = .returned (.tuple #[.string (docW s at_ d), .int .i64 0]) ∧ Below w.heap.size w w' := by
  have h0 : ¬ (at_ : Int) < 0 := by omega
  have hd4 : ¬ (400 : Int) < (d.size : Int) := by omega
  have hdne : ¬ d.toList = [] := not_nil hd0
  have hdie : d.toList.isEmpty = false := by simpa using hdne
  have hE2 : ¬ (2688 : Int) - (d.size : Int) < (at_ : Int) := by omega
  have hpp := pad_put s at_ d
  have hps := padS_size s (at_ + d.size)
  rw [← hpp]
  by_cases h : s.size < at_ + d.size
  · have hp : padS s (at_ + d.size) = s ++ Wd.mkB (fun _ => 0) (at_ + d.size - s.size) := by unfold padS; rw [if_pos h]
    have hl : (s.size : Int) < (at_ : Int) + (d.size : Int) := by omega
    have hs2 : (at_ : Int) + (d.size : Int) - (s.size : Int) = ((at_ + d.size - s.size : Nat) : Int) := by omega
    have HZ : Hid (∀ w1, Calls Tryz.prog 48 #[.int .i64 ((at_ : Int) + (d.size : Int) - (s.size : Int))] w1 fun e w' => e = .returned (.string (Wd.mkB (fun _ => 0) (at_ + d.size - s.size))) ∧ Below w1.heap.size w1 w') := fun w1 => by
      rw [hs2]; exact rzeros_any _ w1 (by omega)
    have hwr : IntKind.i64.wrap ((at_ : Int) + (d.size : Int) - (s.size : Int)) = (at_ : Int) + (d.size : Int) - (s.size : Int) := by rw [IntKind.wrap_i64]; omega
    obtain ⟨z, hze⟩ : ∃ z, Wd.mkB (fun _ => 0) (at_ + d.size - s.size) = z := ⟨_, rfl⟩
    have hzs : z.size = at_ + d.size - s.size := by rw [← hze]; exact Wd.mkB_size _ _
    rw [hze] at HZ hp
    rw [hp] at hps ⊢
    unfold Wd.putS
    have hsz : s.size + z.size ≤ 9223372036854775807 := by omega
    clear hze hpp hp hs2
    obtain ⟨p, hpe⟩ : ∃ p, s ++ z = p := ⟨_, rfl⟩
    have HPE : Hid (s ++ z = p) := hpe
    rw [hpe] at hps ⊢
    have hq1 : (at_ : Int) ≤ (p.size : Int) := by omega
    have hq2 : (at_ : Int) + (d.size : Int) ≤ (p.size : Int) := by omega
    have hadd1 : min at_ p.size + d.size ≤ 9223372036854775807 := by omega
    have hadd2 : min at_ p.size + d.size + (p.size - (at_ + d.size)) ≤ 9223372036854775807 := by omega
    clear hps h
    go_enter Tryz.func22, Tryz.ntmps22
    go_wp2_with fail
    refine Calls.mono (HZ.out _) ?_
    rintro e w1 ⟨rfl, hb⟩
    have HB1 : Hid (Below w.heap.size w w1) := hb
    clear hb hzs
    go_wp2
    go_quiet (fail)
    go_wp2
    go_ret2
    exact ⟨rfl, below_drewN HB1.out _⟩
  · have hp : padS s (at_ + d.size) = s := by unfold padS; rw [if_neg h]
    have hl : ¬ (s.size : Int) < (at_ : Int) + (d.size : Int) := by omega
    rw [hp] at hps ⊢
    unfold Wd.putS
    clear hpp hp
    have hq1 : (at_ : Int) ≤ (s.size : Int) := by omega
    have hq2 : (at_ : Int) + (d.size : Int) ≤ (s.size : Int) := by omega
    have hadd1 : min at_ s.size + d.size ≤ 9223372036854775807 := by omega
    have hadd2 : min at_ s.size + d.size + (s.size - (at_ + d.size)) ≤ 9223372036854775807 := by omega
    have hadd3 : (s.extract 0 at_).size + d.size ≤ 9223372036854775807 := by rw [ByteArray.size_extract]; omega
    have hadd4 : (s.extract 0 at_ ++ d).size + (s.extract (at_ + d.size) s.size).size ≤ 9223372036854775807 := by rw [ByteArray.size_append, ByteArray.size_extract, ByteArray.size_extract]; omega
    clear hps h
    go_enter Tryz.func22, Tryz.ntmps22
    go_wp2
    go_quiet (fail)
    go_wp2
    go_ret2
    exact ⟨rfl, below_drewN (Below.refl _ _) _⟩

end Go.Proofs.YtdjnkibnnjobpaaGreat
