/- What files are over words: their maps, their blocks, their bytes; what giving, dropping and laying a block makes of them. No walk. -/
import Derived.Test.YtdjnkibnnjobpaaBdG
import Derived.Test.YtdjnkibnnjobpaaBdF
namespace Go.Proofs.Ytdjnkibnnjobpaa
open Go.RowKit Go.Maps Go.ChangeMaps

/-- Block q has become a file's, with words 0. -/
structure GiveW (W W' : Int → Int) (q node : Int) : Prop where
  own : W' (200 + q) = node + 1
  zero : ∀ i : Nat, i < 16 → W' (1288 + 16 * q + (i : Int)) = 0
  out : ∀ j, j ≠ 200 + q → j < 1288 + 16 * q ∨ 1288 + 16 * q + 16 ≤ j → W' j = W j
/-- Block q has become no file's. -/
structure DropW (W W' : Int → Int) (q : Int) : Prop where
  own : W' (200 + q) = 0
  out : ∀ j, j ≠ 200 + q → W' j = W j
/-- Block b has got other words. -/
structure SetW (W W' : Int → Int) (b : Int) (f : Nat → Int) : Prop where
  at_ : ∀ i : Nat, i < 16 → W' (1288 + 16 * b + (i : Int)) = f i
  out : ∀ j, j < 1288 + 16 * b ∨ 1288 + 16 * b + 16 ≤ j → W' j = W j
theorem giveW (S : Vw) (M : Mem) (q node : Int) (h0 : 0 ≤ q) (h1 : q < 96) : GiveW (S.word M) ((S.give q node).word M) q node := by
  refine ⟨?_, fun i hi => ?_, fun j hj ho => ?_⟩
  · rw [give_word S M q node _ h0 h1 (by omega), if_pos rfl]
  · exact word_row (S := S.give q node) (own := upd S.own (200 + q) (some (node + 1))) (f := fun _ => 0) rfl i hi
  · have e1 : (S.give q node).word M j = ({ S with own := upd S.own (200 + q) (some (node + 1)) } : Vw).word M j := word_row_out (S0 := { S with own := upd S.own (200 + q) (some (node + 1)) }) (a := 1288 + 16 * q) (f := fun _ => 0) (n := 16) rfl j (by omega)
    rw [e1, upd_word (S0 := S) rfl, if_neg hj]
theorem dropW (S : Vw) (M : Mem) (q : Int) : DropW (S.word M) ((S.drop q).word M) q :=
  ⟨by rw [drop_word, if_pos rfl], fun j hj => by rw [drop_word, if_neg hj]⟩
theorem setW (S : Vw) (M : Mem) (b : Int) (f : Nat → Int) : SetW (S.word M) ((S.setB b f).word M) b f := ⟨fun i hi => setB_in S M b f i hi, fun j hj => setB_out S M b f j hj⟩

/-- A file's blocks: its map's, each once, and More, all its own, and no others. -/
structure Fil (W : Int → Int) (node : Int) (mp : Nat → Int) (mr : Int) : Prop where
  rng : ∀ i, i < 21 → -1 ≤ mp i ∧ mp i < 96
  inj : ∀ i j, i < 21 → j < 21 → mp i = mp j → mp i ≠ -1 → i = j
  own : ∀ i, i < 21 → mp i ≠ -1 → W (200 + mp i) = node + 1
  mrng : -1 ≤ mr ∧ mr < 96
  mown : mr ≠ -1 → W (200 + mr) = node + 1 ∧ ∀ i, i < 21 → mp i ≠ mr
  all : ∀ b, 0 ≤ b → b < 96 → W (200 + b) = node + 1 → b = mr ∨ ∃ i, i < 21 ∧ mp i = b
/-- All other files' blocks are as they were, and no block has become another one's. -/
structure Keeps (W W' : Int → Int) (node : Int) : Prop where
  oth : ∀ b, 0 ≤ b → b < 96 → W (200 + b) ≠ 0 → W (200 + b) ≠ node + 1 → W' (200 + b) = W (200 + b) ∧ ∀ i : Nat, i < 16 → W' (1288 + 16 * b + (i : Int)) = W (1288 + 16 * b + (i : Int))
  mine : ∀ b, 0 ≤ b → b < 96 → W (200 + b) = 0 ∨ W (200 + b) = node + 1 → W' (200 + b) = 0 ∨ W' (200 + b) = node + 1
theorem Keeps.refl (W : Int → Int) (node : Int) : Keeps W W node := ⟨fun _ _ _ _ _ => ⟨rfl, fun _ _ => rfl⟩, fun _ _ _ h => h⟩
theorem Keeps.trans {W W1 W2 : Int → Int} {node : Int} (h : Keeps W W1 node) (k : Keeps W1 W2 node) : Keeps W W2 node := by
  refine ⟨fun b b0 b1 h0 h1 => ?_, fun b b0 b1 h0 => k.mine b b0 b1 (h.mine b b0 b1 h0)⟩
  obtain ⟨x, y⟩ := h.oth b b0 b1 h0 h1
  obtain ⟨x', y'⟩ := k.oth b b0 b1 (by rw [x]; exact h0) (by rw [x]; exact h1)
  exact ⟨x'.trans x, fun i hi => (y' i hi).trans (y i hi)⟩
theorem Keeps.give {W W' : Int → Int} {q node : Int} (h : GiveW W W' q node) (hq : W (200 + q) = 0) (q0 : 0 ≤ q) (q1 : q < 96) : Keeps W W' node := by
  refine ⟨fun b b0 b1 h0 h1 => ?_, fun b b0 b1 h0 => ?_⟩
  · have hne : b ≠ q := fun e => by subst e; exact h0 hq
    exact ⟨h.out _ (by omega) (by omega), fun i hi => h.out _ (by omega) (by omega)⟩
  · by_cases e : b = q
    · subst e; exact .inr h.own
    · rw [h.out (200 + b) (by omega) (by omega)]; exact h0
theorem Keeps.drop {W W' : Int → Int} {q node : Int} (h : DropW W W' q) (hq : W (200 + q) = node + 1) (q0 : 0 ≤ q) (q1 : q < 96) : Keeps W W' node := by
  refine ⟨fun b b0 b1 h0 h1 => ?_, fun b b0 b1 h0 => ?_⟩
  · have hne : b ≠ q := fun e => by subst e; exact h1 hq
    exact ⟨h.out _ (by omega), fun i hi => h.out _ (by omega)⟩
  · by_cases e : b = q
    · subst e; exact .inl h.own
    · rw [h.out (200 + b) (by omega)]; exact h0
theorem Keeps.set {W W' : Int → Int} {q node : Int} {f : Nat → Int} (h : SetW W W' q f) (hq : W (200 + q) = node + 1) (q0 : 0 ≤ q) (q1 : q < 96) : Keeps W W' node := by
  refine ⟨fun b b0 b1 h0 h1 => ?_, fun b b0 b1 h0 => ?_⟩
  · have hne : b ≠ q := fun e => by subst e; exact h1 hq
    exact ⟨h.out _ (by omega), fun i hi => h.out _ (by omega)⟩
  · rw [h.out (200 + b) (by omega)]; exact h0
/-- Another file is as it was. -/
theorem Fil.other {W W' : Int → Int} {node n2 : Int} {mp : Nat → Int} {mr : Int} (h : Fil W n2 mp mr) (k : Keeps W W' node) (hn : n2 ≠ node) (h0 : 0 ≤ n2) : Fil W' n2 mp mr := by
  refine ⟨h.rng, h.inj, fun i hi hx => ?_, h.mrng, fun hx => ?_, fun b b0 b1 hb => ?_⟩
  · have e := h.own i hi hx
    have r := h.rng i hi
    rw [(k.oth (mp i) (by omega) r.2 (by omega) (by omega)).1, e]
  · obtain ⟨e, r⟩ := h.mown hx
    have := h.mrng
    exact ⟨by rw [(k.oth mr (by omega) this.2 (by omega) (by omega)).1, e], r⟩
  · by_cases e : W (200 + b) = 0 ∨ W (200 + b) = node + 1
    · have := k.mine b b0 b1 e
      omega
    · rw [(k.oth b b0 b1 (by omega) (by omega)).1] at hb
      exact h.all b b0 b1 hb
/-- A block's bytes hang on its words alone. -/
theorem blkB_congr {W W' : Int → Int} {b : Int} (h : b = -1 ∨ ∀ i : Nat, i < 16 → W' (1288 + 16 * b + (i : Int)) = W (1288 + 16 * b + (i : Int))) (j : Nat) (hj : j < 128) : blkB W' b j = blkB W b j := by
  unfold blkB
  by_cases e : b = -1
  · rw [if_pos e, if_pos e]
  · rw [if_neg e, if_neg e]
    unfold Wd.byteF
    dsimp only
    rw [h.resolve_left e (j / 8) (by omega)]
theorem fileB_congr {W W' : Int → Int} {mp mp' : Nat → Int} {i : Nat} (hm : mp' (i / 128) = mp (i / 128)) (h : mp (i / 128) = -1 ∨ ∀ t : Nat, t < 16 → W' (1288 + 16 * mp (i / 128) + (t : Int)) = W (1288 + 16 * mp (i / 128) + (t : Int))) : fileB W' mp' i = fileB W mp i := by
  unfold fileB
  rw [hm]
  exact blkB_congr h _ (by omega)
theorem fileB_other {W W' : Int → Int} {node n2 : Int} {mp : Nat → Int} {mr : Int} (h : Fil W n2 mp mr) (k : Keeps W W' node) (hn : n2 ≠ node) (h0 : 0 ≤ n2) (i : Nat) (hi : i < 2688) : fileB W' mp i = fileB W mp i := by
  refine fileB_congr rfl ?_
  by_cases e : mp (i / 128) = -1
  · exact .inl e
  · right
    have r := h.rng (i / 128) (by omega)
    have o := h.own (i / 128) (by omega) e
    exact (k.oth _ (by omega) r.2 (by omega) (by omega)).2

/-- A hole takes a block that was free. -/
theorem Fil.take {W W' : Int → Int} {node q : Int} {mp : Nat → Int} {mr : Int} {P : Nat} (h : Fil W node mp mr) (g : GiveW W W' q node) (hq : W (200 + q) = 0) (q0 : 0 ≤ q) (q1 : q < 96) (n0 : 0 ≤ node) (hP : P < 21) (hh : mp P = -1) : Fil W' node (updN mp P q) mr := by
  have hne : ∀ i, i < 21 → mp i ≠ -1 → mp i ≠ q := fun i hi hx e => by
    have := h.own i hi hx
    rw [e] at this; omega
  have hmq : mr ≠ q := fun e => by
    have := (h.mown (by omega)).1
    rw [e] at this; omega
  refine ⟨fun i hi => ?_, fun i j hi hj he hx => ?_, fun i hi hx => ?_, h.mrng, fun hx => ?_, fun b b0 b1 hb => ?_⟩
  · unfold updN
    by_cases e : i = P
    · rw [if_pos e]; omega
    · rw [if_neg e]; exact h.rng i hi
  · unfold updN at he hx
    by_cases e : i = P
    · by_cases e2 : j = P
      · omega
      · rw [if_pos e, if_neg e2] at he
        by_cases e3 : mp j = -1
        · omega
        · exact absurd he.symm (hne j hj e3)
    · rw [if_neg e] at he hx
      by_cases e2 : j = P
      · rw [if_pos e2] at he
        exact absurd he (hne i hi hx)
      · rw [if_neg e2] at he
        exact h.inj i j hi hj he hx
  · unfold updN at hx ⊢
    by_cases e : i = P
    · rw [if_pos e]; exact g.own
    · rw [if_neg e] at hx ⊢
      have := hne i hi hx
      have r := h.rng i hi
      rw [g.out _ (by omega) (by omega)]
      exact h.own i hi hx
  · obtain ⟨e1, e2⟩ := h.mown hx
    have r := h.mrng
    refine ⟨by rw [g.out _ (by omega) (by omega)]; exact e1, fun i hi => ?_⟩
    unfold updN
    by_cases e : i = P
    · rw [if_pos e]; exact fun x => hmq x.symm
    · rw [if_neg e]; exact e2 i hi
  · by_cases e : b = q
    · exact .inr ⟨P, hP, by unfold updN; rw [if_pos rfl, e]⟩
    · rw [g.out _ (by omega) (by omega)] at hb
      rcases h.all b b0 b1 hb with e1 | ⟨i, hi, e1⟩
      · exact .inl e1
      · refine .inr ⟨i, hi, ?_⟩
        unfold updN
        rw [if_neg (fun e2 => by rw [e2, hh] at e1; omega), e1]
/-- More takes a block that was free. -/
theorem Fil.takeM {W W' : Int → Int} {node q : Int} {mp : Nat → Int} (h : Fil W node mp (-1)) (g : GiveW W W' q node) (hq : W (200 + q) = 0) (q0 : 0 ≤ q) (q1 : q < 96) (n0 : 0 ≤ node) : Fil W' node mp q := by
  have hne : ∀ i, i < 21 → mp i ≠ q := fun i hi e => by
    have := h.own i hi (by omega)
    rw [e] at this; omega
  refine ⟨h.rng, h.inj, fun i hi hx => ?_, ⟨by omega, q1⟩, fun _ => ⟨g.own, hne⟩, fun b b0 b1 hb => ?_⟩
  · have := hne i hi
    have r := h.rng i hi
    rw [g.out _ (by omega) (by omega)]
    exact h.own i hi hx
  · by_cases e : b = q
    · exact .inl e
    · rw [g.out _ (by omega) (by omega)] at hb
      rcases h.all b b0 b1 hb with e1 | e1
      · omega
      · exact .inr e1
/-- Words of blocks play no part in whose they are. -/
theorem Fil.set {W W' : Int → Int} {node b : Int} {mp : Nat → Int} {mr : Int} {f : Nat → Int} (h : Fil W node mp mr) (g : SetW W W' b f) (b0 : 0 ≤ b) : Fil W' node mp mr := by
  have e : ∀ k : Int, -1 ≤ k → k < 96 → W' (200 + k) = W (200 + k) := fun k _ hk => g.out _ (by omega)
  refine ⟨h.rng, h.inj, fun i hi hx => ?_, h.mrng, fun hx => ?_, fun k k0 k1 hb => ?_⟩
  · have r := h.rng i hi
    rw [e _ r.1 r.2]; exact h.own i hi hx
  · have r := h.mrng
    rw [e _ r.1 r.2]; exact h.mown hx
  · rw [e _ (by omega) k1] at hb
    exact h.all k k0 k1 hb
/-- A place's block is given back. -/
theorem Fil.drop {W W' : Int → Int} {node : Int} {mp : Nat → Int} {mr : Int} {P : Nat} (h : Fil W node mp mr) (g : DropW W W' (mp P)) (hP : P < 21) (hx : mp P ≠ -1) (n0 : 0 ≤ node) : Fil W' node (updN mp P (-1)) mr := by
  refine ⟨fun i hi => ?_, fun i j hi hj he hy => ?_, fun i hi hy => ?_, h.mrng, fun hy => ?_, fun b b0 b1 hb => ?_⟩
  · unfold updN
    by_cases e : i = P
    · rw [if_pos e]; omega
    · rw [if_neg e]; exact h.rng i hi
  · unfold updN at he hy
    by_cases e : i = P
    · rw [if_pos e] at hy; exact absurd rfl hy
    · rw [if_neg e] at he hy
      by_cases e2 : j = P
      · rw [if_pos e2] at he; exact absurd he hy
      · rw [if_neg e2] at he; exact h.inj i j hi hj he hy
  · unfold updN at hy ⊢
    by_cases e : i = P
    · rw [if_pos e] at hy; exact absurd rfl hy
    · rw [if_neg e] at hy ⊢
      have hne : mp i ≠ mp P := fun x => e (h.inj i P hi hP x hy)
      rw [g.out _ (by omega)]
      exact h.own i hi hy
  · obtain ⟨e1, e2⟩ := h.mown hy
    have := e2 P hP
    refine ⟨by rw [g.out _ (by omega)]; exact e1, fun i hi => ?_⟩
    unfold updN
    by_cases e : i = P
    · rw [if_pos e]; exact fun x => hy x.symm
    · rw [if_neg e]; exact e2 i hi
  · by_cases e : b = mp P
    · rw [e, g.own] at hb; omega
    · rw [g.out _ (by omega)] at hb
      rcases h.all b b0 b1 hb with e1 | ⟨i, hi, e1⟩
      · exact .inl e1
      · refine .inr ⟨i, hi, ?_⟩
        unfold updN
        rw [if_neg (fun e2 => by subst e2; exact e e1.symm), e1]
/-- More is given back. -/
theorem Fil.dropM {W W' : Int → Int} {node : Int} {mp : Nat → Int} {mr : Int} (h : Fil W node mp mr) (g : DropW W W' mr) (hx : mr ≠ -1) (n0 : 0 ≤ node) : Fil W' node mp (-1) := by
  obtain ⟨e1, e2⟩ := h.mown hx
  refine ⟨h.rng, h.inj, fun i hi hy => ?_, ⟨by omega, by omega⟩, fun hy => absurd rfl hy, fun b b0 b1 hb => ?_⟩
  · have := e2 i hi
    rw [g.out _ (by omega)]; exact h.own i hi hy
  · by_cases e : b = mr
    · rw [e, g.own] at hb; omega
    · rw [g.out _ (by omega)] at hb
      rcases h.all b b0 b1 hb with e3 | e3
      · exact absurd e3 e
      · exact .inr e3

/-! Bytes. -/
theorem bytes_take {W W' : Int → Int} {node q : Int} {mp : Nat → Int} {mr : Int} {P : Nat} (h : Fil W node mp mr) (g : GiveW W W' q node) (hq : W (200 + q) = 0) (q0 : 0 ≤ q) (q1 : q < 96) (n0 : 0 ≤ node) (hh : mp P = -1) (i : Nat) (hi : i < 2688) : fileB W' (updN mp P q) i = fileB W mp i := by
  by_cases e : i / 128 = P
  · unfold fileB
    rw [show updN mp P q (i / 128) = q by unfold updN; rw [if_pos e], show mp (i / 128) = -1 by rw [e]; exact hh]
    unfold blkB
    rw [if_neg (by omega), if_pos rfl]
    unfold Wd.byteF
    dsimp only
    rw [g.zero (i % 128 / 8) (by omega)]
    unfold Wd.getN
    simp
  · refine fileB_congr (by unfold updN; rw [if_neg e]) ?_
    by_cases e2 : mp (i / 128) = -1
    · exact .inl e2
    · right
      have o := h.own (i / 128) (by omega) e2
      have hne : mp (i / 128) ≠ q := fun x => by rw [x] at o; omega
      intro t ht
      have r := h.rng (i / 128) (by omega)
      exact g.out _ (by omega) (by omega)
theorem bytes_takeM {W W' : Int → Int} {node q : Int} {mp : Nat → Int} {mr : Int} (h : Fil W node mp mr) (g : GiveW W W' q node) (hq : W (200 + q) = 0) (n0 : 0 ≤ node) (q1 : q < 96) (i : Nat) (hi : i < 2688) : fileB W' mp i = fileB W mp i := by
  refine fileB_congr rfl ?_
  by_cases e2 : mp (i / 128) = -1
  · exact .inl e2
  · right
    have o := h.own (i / 128) (by omega) e2
    have hne : mp (i / 128) ≠ q := fun x => by rw [x] at o; omega
    intro t ht
    have r := h.rng (i / 128) (by omega)
    exact g.out _ (by omega) (by omega)
theorem bytes_setM {W W' : Int → Int} {node b : Int} {mp : Nat → Int} {mr : Int} {f : Nat → Int} (_h : Fil W node mp mr) (g : SetW W W' b f) (hb : ∀ i, i < 21 → mp i ≠ b) (i : Nat) (hi : i < 2688) : fileB W' mp i = fileB W mp i := by
  refine fileB_congr rfl ?_
  by_cases e2 : mp (i / 128) = -1
  · exact .inl e2
  · right
    have hne := hb (i / 128) (by omega)
    intro t ht
    exact g.out _ (by omega)
theorem bytes_drop {W W' : Int → Int} {node : Int} {mp : Nat → Int} {mr : Int} {P : Nat} (h : Fil W node mp mr) (g : DropW W W' (mp P)) (hP : P < 21) (i : Nat) (hi : i < 2688) : fileB W' (updN mp P (-1)) i = if i / 128 = P then 0 else fileB W mp i := by
  by_cases e : i / 128 = P
  · rw [if_pos e]
    unfold fileB
    rw [show updN mp P (-1) (i / 128) = -1 by unfold updN; rw [if_pos e]]
    unfold blkB
    rw [if_pos rfl]
  · rw [if_neg e]
    refine fileB_congr (by unfold updN; rw [if_neg e]) ?_
    by_cases e2 : mp (i / 128) = -1
    · exact .inl e2
    · right
      intro t ht
      have r := h.rng (i / 128) (by omega)
      have r2 := h.rng P hP
      exact g.out _ (by omega)
theorem bytes_dropM {W W' : Int → Int} {node : Int} {mp : Nat → Int} {mr k : Int} (h : Fil W node mp mr) (g : DropW W W' k) (hk : k < 96) (i : Nat) (hi : i < 2688) : fileB W' mp i = fileB W mp i := by
  refine fileB_congr rfl ?_
  by_cases e2 : mp (i / 128) = -1
  · exact .inl e2
  · right
    intro t ht
    have r := h.rng (i / 128) (by omega)
    exact g.out _ (by omega)
theorem putRow_byte (W : Int → Int) (b : Int) (F : Nat) (d : ByteArray) (hF : F + d.size ≤ 128) (W' : Int → Int) (g : SetW W W' b (putRow W b F d)) (hb : b ≠ -1) (j : Nat) (hj : j < 128) : blkB W' b j = if F ≤ j ∧ j < F + d.size then Wd.bAt d (j - F) else blkB W b j := by
  have hs : (Wd.putS (blkT W b) F d).size = 128 := by rw [Wd.putS_size _ _ _ (by rw [blkT_size]; exact hF), blkT_size]
  have e1 : blkB W' b j = Wd.bAt (Wd.putS (blkT W b) F d) j := by
    unfold blkB
    rw [if_neg hb, ← Wd.byte_text]
    unfold Wd.byteF
    dsimp only
    rw [g.at_ (j / 8) (by omega), hs]
    unfold putRow blockRow
    rw [if_pos (by omega), Int.toNat_natCast]
  rw [e1, Wd.putS_at _ _ _ (by rw [blkT_size]; exact hF) j (by rw [blkT_size]; exact hj), blkT_at W b j hj]
theorem bytes_put {W W' : Int → Int} {node : Int} {mp : Nat → Int} {mr : Int} {P F : Nat} {d : ByteArray} (h : Fil W node mp mr) (g : SetW W W' (mp P) (putRow W (mp P) F d)) (hP : P < 21) (hx : mp P ≠ -1) (hF : F + d.size ≤ 128) (i : Nat) (hi : i < 2688) :
    fileB W' mp i = if 128 * P + F ≤ i ∧ i < 128 * P + F + d.size then Wd.bAt d (i - (128 * P + F)) else fileB W mp i := by
  by_cases e : i / 128 = P
  · unfold fileB
    rw [show mp (i / 128) = mp P by rw [e], putRow_byte W (mp P) F d hF W' g hx (i % 128) (by omega)]
    by_cases c : F ≤ i % 128 ∧ i % 128 < F + d.size
    · rw [if_pos c, if_pos (by omega)]
      congr 1
      omega
    · rw [if_neg c, if_neg (by omega)]
  · rw [if_neg (by omega)]
    refine fileB_congr rfl ?_
    by_cases e2 : mp (i / 128) = -1
    · exact .inl e2
    · right
      have hne : mp (i / 128) ≠ mp P := fun x => e (h.inj _ _ (by omega) hP x e2)
      intro t ht
      exact g.out _ (by omega)
theorem fresh_zero {S : Vw} {M : Mem} {q : Nat} (h : freshB S M (q : Int) = true) : S.word M (200 + (q : Int)) = 0 := by
  unfold freshB at h
  simp only [Bool.and_eq_true, decide_eq_true_eq] at h
  exact h.1.2

end Go.Proofs.Ytdjnkibnnjobpaa
