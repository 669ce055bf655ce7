/- What end makes of a file, whatever was answered; a step of a file. -/
import Derived.Test.YtdjnkibnnjobpaaGreatBdT
namespace Go.Proofs.YtdjnkibnnjobpaaGreat
open Go.RowKit Go.Maps Go.ChangeMaps

/-- A file of the laws, its card as one. -/
def FObjC (w : World) (b vb mb : Nat) (node : Int) (c : Crd) (t : ByteArray) : Prop := FObj w b vb mb node c.k c.l c.s c.v c.d0 c.d1 c.d2 c.d3 c.d4 c.m t
/-- What was answered by the program and by the document: the same, or there is no room. -/
def Like (er f : Int) : Prop := er = 0 ∧ f = 0 ∨ er = f ∧ er ≠ 0 ∨ er = 9 ∧ f = 0
/-- What end leaves. -/
def EndTo (V : VLay) (S : Vw) (L : Lay) (M : Mem) (b : Nat) (node : Int) (c c2 : Crd) (t0 t : ByteArray) (er f : Int) (q : Nat) (w w' : World) (e : Ending) : Prop :=
  e = .returned (.bool true) ∧ ∃ G S' M', w.heap.size ≤ G ∧ Rest w' (V.anew G) S' L M' (q + 2824) ∧ Only (b :: V.vb :: L.blocks) w w' ∧
    ((er = 0 ∧ f = 0 ∧ (∀ j, M'.read j = S.word M j) ∧ FObjC w' b V.vb L.mb node c2 t) ∨ (¬ (er = 0 ∧ f = 0) ∧ M' = M ∧ FObjC w' b V.vb L.mb node c t0))
theorem Rest.mono {w : World} {V : VLay} {S : Vw} {L : Lay} {M : Mem} {q q2 : Nat} (h : Rest w V S L M q) (hq : q ≤ q2) : Rest w V S L M q2 := ⟨h.on, h.own, h.away, h.stops, h.len, by have := h.calls; omega⟩
theorem end_any (V : VLay) (S : Vw) (N : Nat) (L : Lay) (M : Mem) (b : Nat) (node : Int) (c c2 : Crd) (t0 t : ByteArray) (er f : Int) (q : Nat) (w : World) (h : On w V S N L M) (hN : N < 900000000) (ha : S.away = Vw.new.away) (hs : M.stops = false) (hl : M.sure.length = 2824) (hq : M.calls ≤ q) (hq2 : q < 900000000)
    (hf : FObjC w b V.vb L.mb node c t0) (hbV : b ∉ V.all) (hbL : b ∉ L.blocks) (hef : Like er f) :
    Calls Tryz.prog 16 #[.pointer (some ⟨b, 0, none⟩), .agg #[.int .i64 c2.k, .int .i64 c2.l, .int .i64 c2.s, .int .u64 c2.v, .int .i64 c2.d0, .int .i64 c2.d1, .int .i64 c2.d2, .int .i64 c2.d3, .int .i64 c2.d4, .int .i64 c2.m], .string t, .int .i64 er, .int .i64 f] w fun e w' => EndTo V S L M b node c c2 t0 t er f q w w' e := by
  rcases hef with ⟨rfl, rfl⟩ | ⟨rfl, hx⟩ | ⟨rfl, rfl⟩
  · refine (end_yes V S N L M b node c.k c.l c.s c.v c.d0 c.d1 c.d2 c.d3 c.d4 c.m c2.k c2.l c2.s c2.v c2.d0 c2.d1 c2.d2 c2.d3 c2.d4 c2.m t0 t q w h hN ha hs hl hq hq2 hf hbV hbL).mono ?_
    rintro e w' ⟨h1, G, S', M', h2, h3, h4, h5, h6⟩
    exact ⟨h1, G, S', M', h2, h3, h6, .inl ⟨rfl, rfl, h4, h5⟩⟩
  · refine (end_same V S N L M b node c.k c.l c.s c.v c.d0 c.d1 c.d2 c.d3 c.d4 c.m c2.k c2.l c2.s c2.v c2.d0 c2.d1 c2.d2 c2.d3 c2.d4 c2.m er t0 t q w h ha hs hl hq hf hbV hx).mono ?_
    rintro e w' ⟨h1, G, S', M', h2, h3, h4, h5, h6⟩
    exact ⟨h1, G, S', M', h2, h3.mono (by omega), h6.mono (fun x hx => by simp at hx; simp [hx]), .inr ⟨fun x => hx x.1, h4, h5⟩⟩
  · refine (end_space V S N L M b node c.k c.l c.s c.v c.d0 c.d1 c.d2 c.d3 c.d4 c.m c2.k c2.l c2.s c2.v c2.d0 c2.d1 c2.d2 c2.d3 c2.d4 c2.m t0 t q w h ha hs hl hq hf hbV).mono ?_
    rintro e w' ⟨h1, G, S', M', h2, h3, h4, h5, h6⟩
    exact ⟨h1, G, S', M', h2, h3.mono (by omega), h6.mono (fun x hx => by simp at hx; simp [hx]), .inr ⟨fun x => by omega, h4, h5⟩⟩

/-- A file is what the document says: its bytes, its size, its blocks. -/
structure FOk (W : Int → Int) (node : Int) (c : Crd) (t : ByteArray) : Prop where
  kind : c.k = 1 ∧ c.l = 1 ∧ c.v = 1
  file : FileIs W node c.d0 c.d1 c.d2 c.d3 c.d4 c.m
  size : c.s = (t.size : Int)
  le : t.size ≤ 2688
  bytes : ∀ i, i < 2688 → fileB W (mapF W c.d0 c.d1 c.d2 c.d3 c.d4 c.m) i = Wd.bAt t i
theorem FOk.congr {W W' : Int → Int} {node : Int} {c : Crd} {t : ByteArray} (h : FOk W node c t) (e : ∀ j, W' j = W j) : FOk W' node c t := by
  have : W' = W := funext e
  rw [this]; exact h
/-- What a call of the program that changes a file answers, held against what the document answers. -/
structure Did (PX : (Int → Int) → Crd → ByteArray → Prop) (V : VLay) (L : Lay) (M : Mem) (W : Int → Int) (node : Int) (c : Crd) (t0 t : ByteArray) (er f : Int) (c2 : Crd) (S : Vw) (N : Nat) (w w' : World) : Prop where
  on : On w' V S N L M
  small : N ≤ 1000
  only : Only V.blocks w w'
  away : S.away = Vw.new.away
  like : Like er f
  ok : er = 0 → f = 0 → FOk (S.word M) node c2 t ∧ Keeps W (S.word M) node
  px : (er = 0 → f = 0 → PX (S.word M) c2 t) ∧ (¬ (er = 0 ∧ f = 0) → PX W c t0)
/-- A file at rest. -/
structure FSt (w : World) (b : Nat) (V : VLay) (S : Vw) (L : Lay) (M : Mem) (q : Nat) (node : Int) (c : Crd) (t : ByteArray) : Prop where
  rest : Rest w V S L M q
  obj : FObjC w b V.vb L.mb node c t
  bV : b ∉ V.all
  bL : b ∉ L.blocks
  ok : FOk M.read node c t

/-- What the document answers of a Write, and of a Cut. -/
def docWE (t : ByteArray) (at_ : Int) (d : ByteArray) : ByteArray × Int := if at_ < 0 ∨ 400 < d.size then (⟨#[]⟩, 1) else if d.size = 0 then (t, 0) else if 2688 - (d.size : Int) < at_ then (⟨#[]⟩, 10) else (docW t at_.toNat d, 0)
def docCE (t : ByteArray) (n : Int) : ByteArray × Int := if n < 0 then (⟨#[]⟩, 1) else if 2688 < n then (⟨#[]⟩, 10) else (docC t n.toNat, 0)
theorem rwrite_any (t : ByteArray) (at_ : Int) (d : ByteArray) (w : World) (ht : t.size ≤ 2688) : Calls Tryz.prog 22 #[.string t, .int .i64 at_, .string d] w fun e w' => e = .returned (.tuple #[.string (docWE t at_ d).1, .int .i64 (docWE t at_ d).2]) ∧ Below w.heap.size w w' := by
  unfold docWE
  by_cases h0 : at_ < 0
  · rw [if_pos (.inl h0)]; exact rwrite_neg t at_ d w h0
  · by_cases h1 : 400 < d.size
    · rw [if_pos (.inr h1)]; exact rwrite_long t at_ d w (by omega) h1
    · rw [if_neg (by omega)]
      by_cases h2 : d.size = 0
      · rw [if_pos h2]; exact rwrite_none t at_ d w (by omega) h2
      · rw [if_neg h2]
        by_cases h3 : 2688 - (d.size : Int) < at_
        · rw [if_pos h3]; exact rwrite_far t at_ d w (by omega) (by omega) (by omega) h3
        · rw [if_neg h3]
          have := rwrite_yes t at_.toNat d w ht (by omega) (by omega) (by omega)
          rw [Int.toNat_of_nonneg (by omega)] at this
          exact this
theorem rcut_any (t : ByteArray) (n : Int) (w : World) (ht : t.size ≤ 2688) : Calls Tryz.prog 24 #[.string t, .int .i64 n] w fun e w' => e = .returned (.tuple #[.string (docCE t n).1, .int .i64 (docCE t n).2]) ∧ Below w.heap.size w w' := by
  unfold docCE
  by_cases h0 : n < 0
  · rw [if_pos h0]; exact rcut_neg t n w h0
  · rw [if_neg h0]
    by_cases h1 : 2688 < n
    · rw [if_pos h1]; exact rcut_far t n w h1
    · rw [if_neg h1]
      have := rcut_yes t n.toNat w ht (by omega)
      rw [Int.toNat_of_nonneg (by omega)] at this
      exact this
def zeroC : Crd := ⟨0, 0, 0, 0, 0, 0, 0, 0, 0, 0⟩
/-- What the program answers of a Write. -/
def DidW (PX : (Int → Int) → Crd → ByteArray → Prop) (V : VLay) (L : Lay) (M : Mem) (W : Int → Int) (node : Int) (c : Crd) (t0 t : ByteArray) (f : Int) (w w' : World) (e : Ending) : Prop := ∃ er c2 S N, e = .returned (.tuple #[.agg #[.int .i64 c2.k, .int .i64 c2.l, .int .i64 c2.s, .int .u64 c2.v, .int .i64 c2.d0, .int .i64 c2.d1, .int .i64 c2.d2, .int .i64 c2.d3, .int .i64 c2.d4, .int .i64 c2.m], .int .i64 er]) ∧ Did PX V L M W node c t0 t er f c2 S N w w'
def AnyX : (Int → Int) → Crd → ByteArray → Prop := fun _ _ _ => True
/-- What a Cut leaves besides. -/
def CutX (W : Int → Int) (c : Crd) (t : ByteArray) (n : Int) : (Int → Int) → Crd → ByteArray → Prop := fun W' c' t' => 0 ≤ n → n ≤ 2688 → t' = docC t n.toNat ∧ ∀ i, i < 21 → (mapF W' c'.d0 c'.d1 c'.d2 c'.d3 c'.d4 c'.m i = -1 ↔ mapF W c.d0 c.d1 c.d2 c.d3 c.d4 c.m i = -1 ∨ (n.toNat + 127) / 128 ≤ i)
theorem pwrite_any (w : World) (V : VLay) (Sv : Vw) (L : Lay) (M : Mem) (q : Nat) (node : Int) (c : Crd) (t : ByteArray) (at_ : Int) (d : ByteArray) (hr : Rest w V Sv L M q) (n0 : 0 ≤ node) (n1 : node < 24) (ok : FOk M.read node c t) :
    Calls Tryz.prog 15 #[.pointer (some ⟨V.vb, 0, none⟩), .int .i64 node, .agg #[.int .i64 c.k, .int .i64 c.l, .int .i64 c.s, .int .u64 c.v, .int .i64 c.d0, .int .i64 c.d1, .int .i64 c.d2, .int .i64 c.d3, .int .i64 c.d4, .int .i64 c.m], .int .i64 at_, .string d] w fun e w' => DidW AnyX V L M M.read node c t (docWE t at_ d).1 (docWE t at_ d).2 w w' e := by
  have hW : ∀ j, Sv.word M j = M.read j := hr.word
  have okS := ok.congr hW
  have refuse : ∀ (er f : Int) (t1 : ByteArray) (e : Ending) (w' : World), er = f → er ≠ 0 → e = .returned (.tuple #[.agg #[.int .i64 0, .int .i64 0, .int .i64 0, .int .u64 0, .int .i64 0, .int .i64 0, .int .i64 0, .int .i64 0, .int .i64 0, .int .i64 0], .int .i64 er]) ∧ Below w.heap.size w w' → DidW AnyX V L M M.read node c t t1 f w w' e := fun er f t1 e w' h1 h2 ⟨h3, h4⟩ =>
    ⟨er, zeroC, Sv, 0, h3, ⟨hr.on.later h4, by omega, Only.of_below h4, hr.away, .inr (.inl ⟨h1, h2⟩), fun h => absurd h h2, ⟨fun _ _ => trivial, fun _ => trivial⟩⟩⟩
  unfold docWE
  by_cases h0 : at_ < 0
  · rw [if_pos (.inl h0)]
    exact (bwrite_neg V Sv 0 L M node c.k c.l c.s c.v c.d0 c.d1 c.d2 c.d3 c.d4 c.m at_ d w hr.on n0 n1 h0).mono fun e w' h => refuse 1 1 _ e w' rfl (by omega) h
  · by_cases h1 : 400 < d.size
    · rw [if_pos (.inr h1)]
      exact (bwrite_long V Sv 0 L M node c.k c.l c.s c.v c.d0 c.d1 c.d2 c.d3 c.d4 c.m at_ d w hr.on n0 n1 (by omega) h1).mono fun e w' h => refuse 1 1 _ e w' rfl (by omega) h
    · rw [if_neg (by omega)]
      by_cases h2 : d.size = 0
      · rw [if_pos h2]
        refine (bwrite_none V Sv 0 L M node c.k c.l c.s c.v c.d0 c.d1 c.d2 c.d3 c.d4 c.m at_ d w hr.on n0 n1 okS.file (by omega) h2).mono ?_
        rintro e w' ⟨h3, h4⟩
        exact ⟨0, c, Sv, 0, h3, ⟨hr.on.later h4, by omega, Only.of_below h4, hr.away, .inl ⟨rfl, rfl⟩, fun _ _ => ⟨okS, by rw [show Sv.word M = M.read from funext hW]; exact Keeps.refl _ _⟩, ⟨fun _ _ => trivial, fun _ => trivial⟩⟩⟩
      · rw [if_neg h2]
        by_cases h3 : 2688 - (d.size : Int) < at_
        · rw [if_pos h3]
          exact (bwrite_far V Sv 0 L M node c.k c.l c.s c.v c.d0 c.d1 c.d2 c.d3 c.d4 c.m at_ d w hr.on n0 n1 (by omega) (by omega) (by omega) h3).mono fun e w' h => refuse 10 10 _ e w' rfl (by omega) h
        · rw [if_neg h3]
          have hs := ok.size
          have hle := ok.le
          have h := bwrite_any V Sv 0 L M node c.k c.l c.s c.v c.d0 c.d1 c.d2 c.d3 c.d4 c.m at_.toNat d w hr.on (by omega) n0 n1 okS.file (by omega) (by omega) (by omega) (by omega) (by omega)
          rw [Int.toNat_of_nonneg (by omega)] at h
          refine h.mono ?_
          rintro e w' ⟨S1, N1, h4, h5, h6, h7, _, h8⟩
          rcases h8 with ⟨e0, e1, e2, e3, e4, mr, g1, g2, g3, g4, _⟩ | ⟨g1, _⟩
          · refine ⟨0, ⟨c.k, c.l, max c.s ((at_.toNat + d.size : Nat) : Int), c.v, e0, e1, e2, e3, e4, mr⟩, S1, N1, g1, ⟨h4, by omega, h6, h7.trans hr.away, .inl ⟨rfl, rfl⟩, fun _ _ => ⟨⟨ok.kind, g2, ?_, ?_, fun i hi => ?_⟩, ?_⟩, ⟨fun _ _ => trivial, fun _ => trivial⟩⟩⟩
            · rw [docW_size]
              show max c.s _ = _
              rw [hs]; omega
            · rw [docW_size]; omega
            · rw [docW_at]
              show fileB _ (mapF _ e0 e1 e2 e3 e4 mr) i = _
              rw [g4 i hi, okS.bytes i hi]
            · rw [show M.read = Sv.word M from (funext hW).symm]; exact g3
          · exact ⟨9, zeroC, S1, N1, g1, ⟨h4, by omega, h6, h7.trans hr.away, .inr (.inr ⟨rfl, rfl⟩), (fun h => by omega), ⟨fun _ _ => trivial, fun _ => trivial⟩⟩⟩
theorem pcut_any (w : World) (V : VLay) (Sv : Vw) (L : Lay) (M : Mem) (q : Nat) (node : Int) (c : Crd) (t : ByteArray) (n : Int) (hr : Rest w V Sv L M q) (n0 : 0 ≤ node) (n1 : node < 24) (ok : FOk M.read node c t) :
    Calls Tryz.prog 23 #[.pointer (some ⟨V.vb, 0, none⟩), .int .i64 node, .agg #[.int .i64 c.k, .int .i64 c.l, .int .i64 c.s, .int .u64 c.v, .int .i64 c.d0, .int .i64 c.d1, .int .i64 c.d2, .int .i64 c.d3, .int .i64 c.d4, .int .i64 c.m], .int .i64 n] w fun e w' => DidW (CutX M.read c t n) V L M M.read node c t (docCE t n).1 (docCE t n).2 w w' e := by
  have hW : ∀ j, Sv.word M j = M.read j := hr.word
  have okS := ok.congr hW
  have refuse : ∀ (er f : Int) (t1 : ByteArray) (e : Ending) (w' : World), er = f → er ≠ 0 → (n < 0 ∨ 2688 < n) → e = .returned (.tuple #[.agg #[.int .i64 0, .int .i64 0, .int .i64 0, .int .u64 0, .int .i64 0, .int .i64 0, .int .i64 0, .int .i64 0, .int .i64 0, .int .i64 0], .int .i64 er]) ∧ Below w.heap.size w w' → DidW (CutX M.read c t n) V L M M.read node c t t1 f w w' e := fun er f t1 e w' h1 h2 hn ⟨h3, h4⟩ =>
    ⟨er, zeroC, Sv, 0, h3, ⟨hr.on.later h4, by omega, Only.of_below h4, hr.away, .inr (.inl ⟨h1, h2⟩), fun h => absurd h h2, ⟨fun h => absurd h h2, fun _ x y => by omega⟩⟩⟩
  unfold docCE
  by_cases h0 : n < 0
  · rw [if_pos h0]
    exact (bcut_neg V Sv 0 L M node c.k c.l c.s c.v c.d0 c.d1 c.d2 c.d3 c.d4 c.m n w hr.on n0 n1 h0).mono fun e w' h => refuse 1 1 _ e w' rfl (by omega) (.inl h0) h
  · rw [if_neg h0]
    by_cases h1 : 2688 < n
    · rw [if_pos h1]
      exact (bcut_far V Sv 0 L M node c.k c.l c.s c.v c.d0 c.d1 c.d2 c.d3 c.d4 c.m n w hr.on n0 n1 h1).mono fun e w' h => refuse 10 10 _ e w' rfl (by omega) (.inr h1) h
    · rw [if_neg h1]
      have h := bcut_any V Sv 0 L M node c.k c.l c.s c.v c.d0 c.d1 c.d2 c.d3 c.d4 c.m n.toNat w hr.on (by omega) n0 n1 okS.file (by omega)
      rw [Int.toNat_of_nonneg (by omega)] at h
      refine h.mono ?_
      rintro e w' ⟨S1, N1, h4, h5, h6, h7, _, e0, e1, e2, e3, e4, mr, g1, g2, g3, g4, g5⟩
      rw [Int.toNat_of_nonneg (by omega)] at g1
      refine ⟨0, ⟨c.k, c.l, n, c.v, e0, e1, e2, e3, e4, mr⟩, S1, N1, g1, ⟨h4, by omega, h6, h7.trans hr.away, .inl ⟨rfl, rfl⟩, fun _ _ => ⟨⟨ok.kind, g2, ?_, ?_, fun i hi => ?_⟩, ?_⟩, ⟨fun _ _ _ _ => ⟨rfl, fun i hi => by rw [show M.read = Sv.word M from (funext hW).symm]; exact g5 i hi⟩, fun h => absurd ⟨rfl, rfl⟩ h⟩⟩⟩
      · rw [docC_size]
        show n = _
        omega
      · rw [docC_size]; omega
      · rw [docC_at]
        show fileB _ (mapF _ e0 e1 e2 e3 e4 mr) i = _
        rw [g4 i hi, okS.bytes i hi]
      · rw [show M.read = Sv.word M from (funext hW).symm]; exact g3

end Go.Proofs.YtdjnkibnnjobpaaGreat
