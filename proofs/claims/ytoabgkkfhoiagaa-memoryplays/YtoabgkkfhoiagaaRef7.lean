/- The document's memory: New. -/
import Derived.Test.YtoabgkkfhoiagaaRef5
import Derived.Deep.AppendLies
import Derived.Deep.RegionLaw
namespace Go.Proofs.Ytoabgkkfhoiagaa
open Go.RowKit Go.Maps Go.ChangeMaps

def zeroW : RW := ⟨0, 0, 0, false, false⟩
theorem Try.info71 : (Try.prog.info? 71).map (fun i => (i.zero, i.size, i.bytes)) = some (some (.agg #[.int .u64 0, .int .u64 0, .int .u64 0, .bool false, .bool false]), 5, 32) := by kernel_rfl

theorem refRow_snoc (n : Nat) (x : RW) : refRow (n + 1) (fun _ => x) = refRow n (fun _ => x) ++ [fld x 0, fld x 1, fld x 2, fld x 3, fld x 4] := by
  have e : ∀ n, refRow n (fun _ => x) = (List.range (n * 5)).map (fun j => fld x (j % 5)) := fun _ => rfl
  rw [e, e, show (n + 1) * 5 = n * 5 + 5 by omega, List.range_add, List.map_append]
  congr 1
  simp only [List.range, List.range.loop, List.map_cons, List.map_nil]
  rw [show (n * 5 + 0) % 5 = 0 by omega, show (n * 5 + 1) % 5 = 1 by omega, show (n * 5 + 2) % 5 = 2 by omega, show (n * 5 + 3) % 5 = 3 by omega, show (n * 5 + 4) % 5 = 4 by omega]

set_option maxHeartbeats 4000000 in
set_option maxRecDepth 100000 in
theorem load_ref (lb k : Nat) (w : World) (hk : k ≤ 4096) (hlb : lb < w.heap.size) (hz : ∀ i, i < k → w.cell? ⟨lb, i, none⟩ = some (.int .u64 0)) :
    Calls Try.prog 34 #[.slice (some ⟨lb, 0, none⟩) k k] w fun e w' => ∃ L : RLay, e = .returned (.pointer (some ⟨L.rb, 0, none⟩)) ∧ RefAt w' L k (fun _ => zeroW) 0 (-1) ∧ (∀ j ∈ L.blocks, w.heap.size ≤ j) ∧ Below w.heap.size w w' := by
  obtain ⟨i0, hi, hz0, hz1, hz2⟩ := info_parts Try.info71
  go_enter Try.func34, Try.ntmps34
  go_wp2
  go_loopw [4] (fun i wr => ∃ (t : Nat) (L : RLay), t ≤ k ∧ i = .int .i64 t ∧ L.rb = w.heap.size ∧ RefAt wr L t (fun _ => zeroW) 0 (-1) ∧ (∀ j ∈ L.blocks, w.heap.size ≤ j) ∧ Below w.heap.size w wr) (fun i _ => k - (intOf i).toNat)
  case atStart =>
    refine ⟨0, ⟨w.heap.size, w.heap.size, 0, none⟩, Nat.zero_le _, rfl, rfl, ⟨heap_alloc_new w _, World.ownsRow_nil _ _ _ _, .inl ⟨rfl, rfl⟩, by omega⟩, ?_, (Below.refl _ _).alloc (Nat.le_refl _) _⟩
    intro j hj
    simp only [RLay.blocks, List.mem_cons, List.not_mem_nil, or_false] at hj
    omega
  case round =>
    obtain ⟨t, L, ht, rfl, hrb, hA, hbl, hb⟩ := hrel
    by_cases hlt : t < k
    · have hti : (t : Int) < (k : Int) := by omega
      have ht4 : (t : Int) < 4096 := by omega
      have cz : wr.cell? ⟨lb, t, none⟩ = some (.int .u64 0) := (hb.cell (p := ⟨lb, t, none⟩) hlb).trans (hz t hlt)
      have c0 := hA.c0
      have f0 := hA.fz 0
      have hrow := hA.row
      have hlt' := hA.lt
      have hsz := hb.size
      rw [hrb] at c0 f0 hlt'
      have hlw : lb < wr.heap.size := by omega
      have hne : lb ≠ w.heap.size := by omega
      have hgbw : L.sp = some ⟨L.gb, 0, none⟩ → w.heap.size < L.gb ∧ L.gb < wr.heap.size := fun e => by
        have h1 := hA.gb_rb e
        have h2 := hbl L.gb (by simp [RLay.blocks])
        have h3 := hA.all_lt L.gb (by simp [RLay.blocks])
        omega
      have own1 : ∀ x, (Value.slice L.sp t L.cap).ownBlock = some x → w.heap.size < x ∧ x < wr.heap.size := fun x hx => by
        rcases hA.place with ⟨e, _⟩ | e
        · rw [e] at hx; cases hx
        · have := hgbw e
          rw [e] at hx; cases hx; exact this
      have hob := hA.obj
      rw [hrb] at hob
      have OWN : Hid _ := own1
      have HAA : Hid _ := hA
      clear own1 hgbw hA
      go_wp2
      go_region_law
        ((refine step_append_lies _ (by rfl) _ _ _ (by rfl) 0 71 i0 _ 5 32 Try.underlying38 hi hz0 hz1 hz2 rfl (by omega) (.slice L.sp t L.cap) t _ (by rfl) ((hrow.alloc _).drew)
              ⟨wr.heap.size, 0, none⟩ 1 1 [.int .u64 0, .int .u64 0, .int .u64 0, .bool false, .bool false] (by rfl) (by rfl) (World.news_of_block (cs := #[.int .u64 0, .int .u64 0, .int .u64 0, .bool false, .bool false]) (t := 71) (fr := (0, 0)) (heap_alloc_new wr _)) (by simp [Value.oneCell'])
              (by omega) (by unfold maxLen; omega) (by omega) (by omega) (wr.heap.size + 1) (by simp) ?_; intro gg cap w1 hown1 hgrow hat hlt1; have hk1 : ∀ x, x < wr.heap.size → some x ≠ (Value.slice L.sp t L.cap).ownBlock → w1.heap[x]? = wr.heap[x]? := (fun x hx hn => (hgrow.block x (by simp; omega) hn).trans (Below.heap_alloc _ _ _ hx)); have hr1 := hk1 w.heap.size hlt' (fun h => by have := Hid.out OWN _ h.symm; omega); have c1 := (World.cell?_of_block (w := wr) (a := ⟨w.heap.size, 0, none⟩) hr1).trans c0; have f1 := (World.frozen?_of_block (w := wr) (a := ⟨w.heap.size, 0, none⟩) hr1).trans f0))
      all_goals
        have hA := Hid.out HAA
        have hgg : gg ≠ w.heap.size := by
          rcases hat with h | h
          · have := Hid.out OWN gg h; omega
          · omega
        have hX : RefAt (w1.setCell ⟨w.heap.size, 0, none⟩ (.slice (some ⟨gg, 0, none⟩) (t + 1) cap)) ⟨w.heap.size, gg, cap, some ⟨gg, 0, none⟩⟩ (t + 1) (fun _ => zeroW) 0 (-1) := by
          refine ⟨?_, ?_, .inr rfl, by omega⟩
          · have h1 := hr1.trans hob
            simp [World.setCell, Array.getElem?_modify, h1, robj]
          · rw [refRow_snoc]
            exact ownsRow_setCell_other hown1 (fun h => hgg (by cases h; rfl)) _
        have hB : Below w.heap.size w (w1.setCell ⟨w.heap.size, 0, none⟩ (.slice (some ⟨gg, 0, none⟩) (t + 1) cap)) := by
          have hB1 : Below w.heap.size w w1 := ⟨hgrow.os.trans hb.os, hgrow.tape.trans hb.tape, hgrow.output.trans hb.output, by have := hgrow.size; simp at this; omega, fun x hx => (hk1 x (by omega) (fun h => by have := Hid.out OWN x h.symm; omega)).trans (hb.block x hx)⟩
          exact hB1.setCell (p := ⟨w.heap.size, 0, none⟩) (Nat.le_refl _) _
        have hgg2 : w.heap.size ≤ gg := by
          rcases hat with h | h
          · have := Hid.out OWN gg h; omega
          · omega
        have HX : Hid _ := hX
        have HB : Hid _ := hB
        clear hX hB hown1 hgrow hat hk1
        go_wp2
        go_roundw
        case rel =>
          refine ⟨t + 1, ⟨w.heap.size, gg, cap, some ⟨gg, 0, none⟩⟩, by omega, by go_num, rfl, Hid.out HX, ?_, Hid.out HB⟩
          intro x hx
          simp only [RLay.blocks, List.mem_cons, List.not_mem_nil, or_false] at hx
          omega
        case measure => simp [intOf]; omega
    · obtain rfl : t = k := by omega
      go_wp2
      go_ret
      exact ⟨L, by rw [hrb]; rfl, hA, hbl, hb⟩

theorem words_fresh (k : Nat) : Words (fresh (List.replicate k 0)) (fun _ => zeroW) := by
  have hl : (fresh (List.replicate k 0)).sure.length = k := by simp [fresh]
  refine ⟨fun i hi => ?_, fun i hi => ?_, fun i hi => rfl, fun i hi => rfl, fun i u hi hu => by cases hu⟩
  · rw [hl] at hi; simp [fresh, zeroW, hi]
  · rw [read_of _ i hi]
    rw [hl] at hi
    show (0 : Int) = (none : Option Int).getD ((List.replicate k (0 : Int)).getD i 0)
    simp [hi]
theorem sound_fresh (xs : List Int) : Sound (fresh xs) := ⟨fun k hk => (by cases hk), fun h => (by cases h), fun k v hv => (by cases hv)⟩

theorem new_ref (n : Int) (k : Nat) (w : World) (hk : min (max n 0) 4096 = (k : Int)) :
    Calls Try.prog 13 #[.int .i64 n] w fun e w' => ∃ L : RLay, e = .returned (.pointer (some ⟨L.rb, 0, none⟩)) ∧ RefIs w' L (fresh (List.replicate k 0)) ∧ (∀ j ∈ L.blocks, w.heap.size ≤ j) ∧ Below w.heap.size w w' := by
  obtain ⟨i0, hi, hz0, hz1, hz2⟩ := info_parts Try.info32
  have hk2 : k ≤ 4096 := by omega
  have HK : Hid (min (max n 0) 4096 = (k : Int)) := hk
  clear hk
  go_enter Try.func13, Try.ntmps13
  go_wp2_with (first
    | (at_make; refine wpList_make_full _ rfl _ _ 45 rfl w.heap.size 32 i0 (.int .u64 0) 1 Try.underlying45 hi hz0 hz1 _ _ _ _ k rfl rfl HK.out HK.out (by rw [hz2]; omega) (by unfold maxLen; omega) (Nat.le_refl _) ?_; intro w0 hown0 hgrow0)
    | (go_at_call 34; refine (load_ref _ k _ hk2 (hown0.lt _ rfl).2 (fun i hi => by rw [hown0.cellAt i (by omega), toList_zeros]; simp [hi])).mono ?_; rintro e w2 ⟨L, rfl, h2, hL, b2⟩)
    | go_in)
  go_ret
  have hs := hgrow0.size
  refine ⟨L, rfl, ⟨_, ?_, words_fresh k, sound_fresh _⟩, fun j hj => Nat.le_trans hs (hL j hj), ((Below.refl _ _).grown hgrow0 (Nat.le_refl _) (fun k h => by cases h)).trans (b2.mono hs)⟩
  have e1 : (fresh (List.replicate k 0)).sure.length = k := by simp [fresh]
  rw [e1]; exact h2

end Go.Proofs.Ytoabgkkfhoiagaa
