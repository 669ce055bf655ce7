/- A new file that is written at a place: which blocks it has. -/
import Derived.Test.YtdjnkibnnjobpaaGreatBdZb
namespace Go.Proofs.YtdjnkibnnjobpaaGreat
open Go.RowKit Go.Maps Go.ChangeMaps

/-- What a Write at a place leaves of a new file. -/
def TouchX (W : Int → Int) (c : Crd) (at_ : Nat) (d : ByteArray) : Prop :=
  FileIs W 2 c.d0 c.d1 c.d2 c.d3 c.d4 c.m ∧ (d.size = 0 → NoBlk W c ∧ c.s = 0) ∧
  (0 < d.size → (c.k = 1 ∧ c.l = 1 ∧ c.v = 1) ∧ c.s = ((at_ + d.size : Nat) : Int) ∧
    (∀ i, i < 2688 → fileB W (mapF W c.d0 c.d1 c.d2 c.d3 c.d4 c.m) i = if at_ ≤ i ∧ i < at_ + d.size then Wd.bAt d (i - at_) else 0) ∧
    ∀ i, i < 21 → (mapF W c.d0 c.d1 c.d2 c.d3 c.d4 c.m i = -1 ↔ ¬ (at_ / 128 ≤ i ∧ i ≤ (at_ + d.size - 1) / 128)))
structure TDid (V : VLay) (L : Lay) (at_ : Nat) (d : ByteArray) (c : Crd) (S : Vw) (N : Nat) (w w' : World) : Prop where
  on : On w' V S N L M0
  small : N ≤ 1000
  only : Only V.blocks w w'
  away : S.away = Vw.new.away
  tx : TouchX (S.word M0) c at_ d
def DidT (V : VLay) (L : Lay) (at_ : Nat) (d : ByteArray) (w w' : World) (e : Ending) : Prop := ∃ c S N, e = .returned (.tuple #[.agg #[.int .i64 c.k, .int .i64 c.l, .int .i64 c.s, .int .u64 c.v, .int .i64 c.d0, .int .i64 c.d1, .int .i64 c.d2, .int .i64 c.d3, .int .i64 c.d4, .int .i64 c.m], .int .i64 0]) ∧ TDid V L at_ d c S N w w'
theorem touch_any (w : World) (V : VLay) (L : Lay) (at_ : Nat) (d : ByteArray) (h : On w V Vw.new 0 L M0) (hd : d.size ≤ 400) (hE : at_ + d.size ≤ 2688) :
    Calls Tryz.prog 15 #[.pointer (some ⟨V.vb, 0, none⟩), .int .i64 2, .agg #[.int .i64 1, .int .i64 1, .int .i64 0, .int .u64 1, .int .i64 (-1), .int .i64 (-1), .int .i64 (-1), .int .i64 (-1), .int .i64 (-1), .int .i64 (-1)], .int .i64 at_, .string d] w fun e w' => DidT V L at_ d w w' e := by
  have hW : Vw.new.word M0 = M0.read := funext (M0_rest h).word
  have hF : FileIs (Vw.new.word M0) 2 (-1) (-1) (-1) (-1) (-1) (-1) := by rw [hW]; exact (newF 2 (by omega)).file
  by_cases h2 : d.size = 0
  · refine (bwrite_none V Vw.new 0 L M0 2 1 1 0 1 (-1) (-1) (-1) (-1) (-1) (-1) at_ d w h (by omega) (by omega) hF (by omega) h2).mono ?_
    rintro e w' ⟨h3, h4⟩
    exact ⟨newC, Vw.new, 0, h3, h.later h4, by omega, Only.of_below h4, rfl, hF, fun _ => ⟨fun i _ => newmap _ _, rfl⟩, fun x => by omega⟩
  · refine (bwrite_any V Vw.new 0 L M0 2 1 1 0 1 (-1) (-1) (-1) (-1) (-1) (-1) at_ d w h (by omega) (by omega) (by omega) hF (by omega) (by omega) (by omega) hd hE).mono ?_
    rintro e w' ⟨S1, N1, h4, h5, h6, h7, _, h8⟩
    rcases h8 with ⟨e0, e1, e2, e3, e4, mr, g1, g2, g3, g4, g5⟩ | ⟨_, g⟩
    · refine ⟨⟨1, 1, max 0 ((at_ + d.size : Nat) : Int), 1, e0, e1, e2, e3, e4, mr⟩, S1, N1, g1, h4, by omega, h6, h7, g2, fun x => absurd x h2, fun hp => ⟨⟨rfl, rfl, rfl⟩, ?_, fun i hi => ?_, fun i hi => ?_⟩⟩
      · show max (0 : Int) _ = _
        omega
      · refine (g4 i hi).trans ?_
        by_cases hc : at_ ≤ i ∧ i < at_ + d.size
        · rw [if_pos hc, if_pos hc]
        · rw [if_neg hc, if_neg hc]
          exact hole_byte (newmap _ _)
      · refine (g5 i hi).trans ?_
        rw [show mapF (Vw.new.word M0) (-1) (-1) (-1) (-1) (-1) (-1) i = -1 from newmap _ _]
        unfold pcN pcHi
        rw [if_pos (by omega)]
        omega
    · rw [new_count] at g
      omega
section
variable {W : Int → Int} {c : Crd} {at_ : Nat} {d : ByteArray}
theorem TouchX.congr {W' : Int → Int} (h : TouchX W c at_ d) (e : ∀ j, W' j = W j) : TouchX W' c at_ d := by
  have : W' = W := funext e
  rw [this]; exact h
theorem touch_cnt {f : Nat → Int} {P R : Nat} (h : ∀ i, i < 21 → (0 ≤ f i ↔ P ≤ i ∧ i < R)) : ∀ j, j ≤ 21 → cntF f j = min j R - min j P := by
  intro j
  induction j with
  | zero => intro _; simp [cntF]
  | succ j ih =>
    intro hj
    have hi := ih (by omega)
    have hx := h j (by omega)
    by_cases e : 0 ≤ f j
    · rw [cntF_yes e, hi]
      have := hx.1 e
      omega
    · rw [cntF_no (by omega), hi]
      have : ¬ (P ≤ j ∧ j < R) := fun y => e (hx.2 y)
      omega
theorem touch_own (h : TouchX W c at_ d) (hd : 0 < d.size) (hE : at_ + d.size ≤ 2688) : (ownL (mapF W c.d0 c.d1 c.d2 c.d3 c.d4 c.m) c.m).length = (at_ + d.size - 1) / 128 - at_ / 128 + 1 + (if 5 ≤ (at_ + d.size - 1) / 128 then 1 else 0) := by
  obtain ⟨hF, _, h3⟩ := h
  obtain ⟨_, _, _, hh⟩ := h3 hd
  have hr := hF.1.mrng
  have hmp : ∀ i, i < 21 → (0 ≤ rowF (mapF W c.d0 c.d1 c.d2 c.d3 c.d4 c.m) c.m i ↔ at_ / 128 ≤ i ∧ i < (at_ + d.size - 1) / 128 + 1) := fun i hi => by
    have := hh i hi
    have h0 := hF.1.rng i hi
    unfold rowF
    rw [if_pos hi]
    omega
  have hc := touch_cnt hmp 21 (by omega)
  by_cases hl : 5 ≤ (at_ + d.size - 1) / 128
  · rw [if_pos hl]
    have hm : c.m ≠ -1 := fun e => by
      have := (hh ((at_ + d.size - 1) / 128) (by omega)).1
      have hx : mapF W c.d0 c.d1 c.d2 c.d3 c.d4 c.m ((at_ + d.size - 1) / 128) = -1 := by
        unfold mapF
        rw [if_neg (by omega), if_pos e]
      have := this hx
      omega
    have h22 := cntF_own (mapF W c.d0 c.d1 c.d2 c.d3 c.d4 c.m) c.m 22 (.inr ⟨by omega, rfl⟩)
    rw [← h22, cntF_yes (by unfold rowF; rw [if_neg (by omega)]; omega), hc]
    omega
  · rw [if_neg hl]
    have hm : c.m = -1 := by
      by_cases hm : c.m = -1
      · exact hm
      · obtain ⟨i, hi, hx⟩ := hF.2 hm
        have e := (hh (5 + i) (by omega)).2 (by omega)
        unfold mapF at e
        rw [if_neg (by omega), if_neg hm, show 5 + i - 5 = i by omega] at e
        omega
    have h21 := cntF_own (mapF W c.d0 c.d1 c.d2 c.d3 c.d4 c.m) c.m 21 (.inl ⟨hm, rfl⟩)
    rw [← h21, hc]
    omega
theorem touch_ok (h : TouchX W c at_ d) (hd : 0 < d.size) (hE : at_ + d.size ≤ 2688) : FOk W 2 c (Wd.mkB (fun _ => 0) at_ ++ d) := by
  obtain ⟨hF, _, h3⟩ := h
  obtain ⟨hk, hs, hb, _⟩ := h3 hd
  have hz : (Wd.mkB (fun _ => 0) at_ ++ d).size = at_ + d.size := by rw [ByteArray.size_append, Wd.mkB_size]
  refine ⟨hk, hF, by rw [hz]; exact hs, by rw [hz]; exact hE, fun i hi => ?_⟩
  rw [hb i hi, Wd.bAt_append, Wd.mkB_size]
  by_cases hx : i < at_
  · rw [if_pos hx, if_neg (by omega), Wd.bAt_mkB _ (fun _ => by omega) _ _ hx]
  · rw [if_neg hx]
    by_cases hy : i < at_ + d.size
    · rw [if_pos ⟨by omega, hy⟩]
    · rw [if_neg (by omega), Wd.bAt_out d _ (by omega)]
theorem touch_none (h : TouchX W c at_ d) (hd : d.size = 0) : (ownL (mapF W c.d0 c.d1 c.d2 c.d3 c.d4 c.m) c.m).length = 0 ∧ c.s = 0 := by
  obtain ⟨hn, hs⟩ := h.2.1 hd
  exact ⟨by rw [own_none hn (noMore h.1 hn)]; rfl, hs⟩
end
/-- A place in a new file. -/
theorem place_some (x : Int) (k : Nat) (hk : k ≤ 400) : ∃ n : Nat, wrap64 ((IntKind.u64.wrap x).tmod ((2689 : Int) - (k : Int))) = (n : Int) ∧ n + k ≤ 2688 := by
  obtain ⟨q, h1, h2, _⟩ := place_in x ((2689 : Int) - (k : Int)) (by omega) (by omega)
  exact ⟨q, h2, by omega⟩
/-- The cells of a new file. -/
theorem new_cells {w : World} {b vb mb : Nat} {t : ByteArray} (h : FObjC w b vb mb 2 newC t) : w.cell? ⟨b, 0, none⟩ = some (.pointer (some ⟨vb, 0, none⟩)) ∧ w.cell? ⟨b, 2, none⟩ = some (.int .i64 2) ∧ w.cell? ⟨b, 3, none⟩ = some (.int .i64 1) ∧ w.cell? ⟨b, 4, none⟩ = some (.int .i64 1) ∧ w.cell? ⟨b, 5, none⟩ = some (.int .i64 0) ∧ w.cell? ⟨b, 6, none⟩ = some (.int .u64 1) ∧ w.cell? ⟨b, 7, none⟩ = some (.int .i64 (-1)) ∧ w.cell? ⟨b, 8, none⟩ = some (.int .i64 (-1)) ∧ w.cell? ⟨b, 9, none⟩ = some (.int .i64 (-1)) ∧ w.cell? ⟨b, 10, none⟩ = some (.int .i64 (-1)) ∧ w.cell? ⟨b, 11, none⟩ = some (.int .i64 (-1)) ∧ w.cell? ⟨b, 12, none⟩ = some (.int .i64 (-1)) :=
  ⟨h.c0, h.c2, h.c3, h.c4, h.c5, h.c6, h.c7, h.c8, h.c9, h.c10, h.c11, h.c12⟩
theorem made_run (n : Nat) (hn : n ≤ 100000) (u : World) : (Instr.makeSlice 51 (.int .i64 (n : Int)) (.int .i64 (n : Int))).run Tryz.prog u = .ok (.slice (some ⟨u.heap.size, 0, none⟩) n n) (u.alloc (.cells (madeCells #[.int .u8 0] n) 5)) := by
  obtain ⟨i0, hi, hz0, hz1, hz2⟩ := info_parts Tryz.extra105.infoByte
  have h := run_make (P := Tryz.prog) u 51 5 i0 (.int .u8 0) Tryz.underlying51 hi hz0 .i64 .i64 (n : Int) (n : Int) (by omega) (Int.le_refl _) (by rw [hz2]; omega) (by omega)
  rw [Int.toNat_natCast, hz1, Nat.mul_one] at h
  exact h
theorem zero_text (n : Nat) (hn : n ≤ 100000) (u : World) : (convert 51 9 (.slice (some ⟨u.heap.size, 0, none⟩) n n)).run Tryz.prog (u.alloc (.cells (madeCells #[.int .u8 0] n) 5)).drew = .ok (.string (Wd.mkB (fun _ => 0) n)) (u.alloc (.cells (madeCells #[.int .u8 0] n) 5)).drew := by
  have hp : Wd.part (fun _ => 0) n = Wd.part (fun _ => 0) 0 := by
    funext i
    unfold Wd.part
    split <;> split <;> rfl
  have hown := World.ownsRow_lit (base := u.heap.size) (e := 5) (size := 1) u (madeCells #[.int .u8 0] n) n (Nat.le_refl _) (by unfold maxLen; omega) (by rw [Nat.mul_one]; exact size_madeCells _ _)
  rw [Wd.made_bytes n (fun _ => 0), ← hp] at hown
  exact Wd.row_text (fun _ => by omega) hown.drew
/-- What end leaves of a new file that was written. -/
def TouchTo (w0 u : World) (b vb : Nat) (L : Lay) (c : Crd) (at_ : Nat) (d t : ByteArray) (w' : World) (e : Ending) : Prop := e = .returned (.bool true) ∧ Only (b :: vb :: L.blocks) u w' ∧ ∃ V' S' M', OSt w' b V' S' L M' 2824 2 c t ∧ b ∉ V'.all ∧ TouchX M'.read c at_ d ∧ Below w0.heap.size w0 w'
theorem touch_end (w0 u : World) (b : Nat) (V : VLay) (L : Lay) (S : Vw) (N : Nat) (c : Crd) (at_ : Nat) (d t : ByteArray) (h : On u V S N L M0) (hN : N ≤ 1000) (ha : S.away = Vw.new.away) (hf : FObjC u b V.vb L.mb 2 newC ⟨#[]⟩) (hx : TouchX (S.word M0) c at_ d) (hbV : b ∉ V.all) (hbL : b ∉ L.blocks) (hbel : Below w0.heap.size w0 u) (hlow : w0.heap.size ≤ b) (hlv : ∀ x ∈ V.all, w0.heap.size ≤ x) (hll : ∀ x ∈ L.blocks, w0.heap.size ≤ x) :
    Calls Tryz.prog 16 #[.pointer (some ⟨b, 0, none⟩), .agg #[.int .i64 c.k, .int .i64 c.l, .int .i64 c.s, .int .u64 c.v, .int .i64 c.d0, .int .i64 c.d1, .int .i64 c.d2, .int .i64 c.d3, .int .i64 c.d4, .int .i64 c.m], .string t, .int .i64 0, .int .i64 0] u fun e w' => TouchTo w0 u b V.vb L c at_ d t w' e := by
  refine (end_yes V S N L M0 b 2 1 1 0 1 (-1) (-1) (-1) (-1) (-1) (-1) c.k c.l c.s c.v c.d0 c.d1 c.d2 c.d3 c.d4 c.m ⟨#[]⟩ t 0 u h (by omega) ha (by unfold M0; rfl) M0_len (by show M0.calls ≤ 0; unfold M0; exact Nat.le_refl _) (by omega) hf hbV hbL).mono ?_
  rintro e w' ⟨h1, G, S', M', h2, h3, h4, h5, h6⟩
  have hx' := hx.congr h4
  have hG := h.view.all_lt
  have hb := hf.lt
  refine ⟨h1, h6, V.anew G, S', M', ⟨h3, h5, hx'.1⟩, fun hm => ?_, hx', hbel.trans (h6.below hbel.size fun x hm => ?_)⟩
  · rcases anew_all (V := V) (n := u.heap.size) h2 b hm with y | y
    · exact hbV y
    · omega
  · simp only [List.mem_cons] at hm
    rcases hm with hm | hm | hm
    · rw [hm]; exact hlow
    · rw [hm]; exact hlv _ (vb_mem V)
    · exact hll x hm

end Go.Proofs.YtdjnkibnnjobpaaGreat
