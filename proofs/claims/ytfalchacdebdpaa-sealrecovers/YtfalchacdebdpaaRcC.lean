/- Contract of the document's Recovered. -/
import Derived.Test.YtfalchacdebdpaaRcB
import Derived.BigRegion
namespace Go.Proofs.Ytfalchacdebdpaa
open Go.RowKit Go.Maps Go.ChangeMaps
set_option linter.unusedVariables false
set_option linter.unusedSimpArgs false

theorem updCs_take (g : Nat → Int) (cs : List Chg) (k : Nat) (h : k < cs.length) : updCs g (cs.take (k + 1)) = updN (updCs g (cs.take k)) (cs.getD k (0, 0)).1.toNat (cs.getD k (0, 0)).2 := by
  have e : cs.take (k + 1) = cs.take k ++ [cs.getD k (0, 0)] := by rw [List.take_add_one]; simp [h]
  rw [e]
  unfold updCs
  rw [List.foldl_append]
  rfl
theorem updRecs_take (g : Nat → Int) (xs : List RecX) (i : Nat) (h : i < xs.length) : updRecs g ((xs.take (i + 1)).map RecX.doc) = updRec (updRecs g ((xs.take i).map RecX.doc)) xs[i]!.doc := by
  have e : xs.take (i + 1) = xs.take i ++ [xs[i]!] := by rw [List.take_add_one]; simp [h]
  rw [e, List.map_append]
  unfold updRecs
  rw [List.foldl_append]
  rfl
/-- A row of 2824 words of one's own, told by a plain function. -/
def OwnU (w : World) (B G c : Nat) (f : Nat → Int) : Prop := w.ownsRow B 22 1 (.slice (some ⟨G, 0, none⟩) 2824 c) 2824 (rowI f 2824)
theorem rowI_set (f : Nat → Int) (n q : Nat) (v : Int) : (rowI f n).set q (.int .u64 v) = rowI (updN f q v) n := by
  have h := set_rowI f n q v
  rw [List.setIfInBounds_toArray] at h
  exact congrArg Array.toList h
theorem OwnU.set {w : World} {B G c : Nat} {f : Nat → Int} (h : OwnU w B G c f) (q : Nat) (v : Int) : OwnU (w.setCell ⟨G, q, none⟩ (.int .u64 v)) B G c (updN f q v) := by
  have h1 := (World.ownsRow.stored h q (.int .u64 v)).1
  rw [rowI_set] at h1
  exact h1
theorem OwnU.cell {w : World} {B G c : Nat} {f : Nat → Int} (h : OwnU w B G c f) (j : Nat) (hj : j < 2824) : w.cell? ⟨G, j, none⟩ = some (.int .u64 (f j)) ∧ w.frozen? ⟨G, j, none⟩ = false := by
  refine ⟨?_, World.ownsRow.frozenAt h j⟩
  rw [World.ownsRow.cellAt h j (by omega)]
  exact rowI_at f 2824 j hj
theorem OwnU.drew {w : World} {B G c : Nat} {f : Nat → Int} (h : OwnU w B G c f) : OwnU w.drew B G c f := World.ownsRow.drew h
theorem OwnU.down {w : World} {B B' G c : Nat} {f : Nat → Int} (h : OwnU w B G c f) (hb : B' ≤ B) : OwnU w B' G c f := row_down h hb
theorem docLogs_any (n : Nat) (a : Option Addr) (c : Nat) (g : Nat → Int) (w : World) (h : UAt w a n g) (hg : ∀ i, i < n → 0 ≤ g i ∧ g i ≤ 18446744073709551615) :
    Calls Try.prog 43 #[.slice a n c] w fun e w' => DocSpec w w' e n g ∧ Below w.heap.size w w' := by
  by_cases hr : rightB n g = true
  · have hn := rightB_len hr
    subst hn
    obtain ⟨b, o, rfl, hb, hc⟩ := h.resolve_left (by omega)
    exact doc_logs b o c g w hb hg hc hr 2824 rfl
  · exact doc_bad n a c g w h (by simpa using hr)
/-- What the document's Recovered answers. -/
def RecdSpec (w w' : World) (e : Ending) (n : Nat) (g : Nat → Int) : Prop :=
  ((¬ ∃ rs, GoodLogs n g rs) ∧ e = .returned (.tuple #[.slice none 0 0, .int .i64 0, .bool false])) ∨
  ∃ (G c : Nat) (rs : List Rec), e = .returned (.tuple #[.slice (some ⟨G, 0, none⟩) 2824 c, .int .i64 (rs.length : Nat), .bool true]) ∧ GoodLogs n g rs ∧ OwnU w' w.heap.size G c (updRecs g rs)
theorem doc_inside {g : Nat → Int} {xs : List RecX} (hg : ∀ i, i < 2824 → 0 ≤ g i ∧ g i ≤ 18446744073709551615) (h : GoodLogs 2824 g (xs.map RecX.doc)) {x : RecX} (hx : x ∈ xs) : Inside x.cs :=
  rightP_inside (good_ok hg h x.doc (List.mem_map_of_mem hx)).1

set_option maxHeartbeats 4000000 in
set_option maxRecDepth 100000 in
theorem recovered_any (n : Nat) (a : Option Addr) (c : Nat) (g : Nat → Int) (w : World) (h : UAt w a n g) (hg : ∀ i, i < n → 0 ≤ g i ∧ g i ≤ 18446744073709551615) :
    Calls Try.prog 16 #[.slice a n c] w fun e w' => RecdSpec w w' e n g ∧ Below w.heap.size w w' := by
  have HL : Hid (Calls Try.prog 43 #[.slice a n c] w fun e w' => DocSpec w w' e n g ∧ Below w.heap.size w w') := docLogs_any n a c g w h hg
  have HU : Hid (UAt w a n g) := h
  have HG : Hid (∀ i, i < n → 0 ≤ g i ∧ g i ≤ 18446744073709551615) := hg
  obtain ⟨i0, hi, hz0, hz1, hz2⟩ := info_parts Try.info22
  clear h hg
  go_enter Try.func16, Try.ntmps16
  go_wp2_with fail
  refine Calls.mono (Hid.out HL) ?_
  rintro e w1 ⟨hd, hb⟩
  clear HL
  rcases hd with ⟨hno, rfl⟩ | ⟨v, xs, rfl, hgl, hin, hod⟩
  · have HNO : Hid ((¬ ∃ rs, GoodLogs n g rs) ∧ Below w.heap.size w w1) := ⟨hno, hb⟩
    clear hno hb
    go_wp2
    go_ret3
    exact ⟨.inl ⟨HNO.out.1, rfl⟩, HNO.out.2⟩
  · have hn := rightB_len hgl.1
    obtain ⟨b, o, rfl, hbl, hcl⟩ := HU.out.resolve_left (by omega)
    have HN : Hid (n = 2824) := hn
    have hn1 : n ≤ 100000 := by omega
    have hn2 : (2824 : Int) ≤ (n : Int) := by omega
    clear hn
    have hnews : ∀ (j : Nat) (u : Value), (rowI g n)[j]? = some u → w1.cell? ((⟨b, o, none⟩ : Addr).add j) = some u := fun j u hj => by
      have hjl : j < n := by
        have := (List.getElem?_eq_some_iff.1 hj).1
        rwa [rowI_len] at this
      rw [rowI_at g n j hjl] at hj
      rw [add_none, ← hj]
      exact (hb.cell (p := ⟨b, o + j, none⟩) hbl).trans (hcl j hjl)
    have HB1 : Hid (Below w.heap.size w w1) := hb
    have HGL : Hid (GoodLogs n g (xs.map RecX.doc)) := hgl
    have HIN : Hid (∀ x ∈ xs, 0 ≤ x.at_ ∧ x.at_ < 4) := hin
    have HINS : Hid (∀ x ∈ xs, Inside x.cs) := fun x hx => by
      have h1 := HGL.out
      have h2 := HG.out
      rw [HN.out] at h1 h2
      exact doc_inside h2 h1 hx
    obtain ⟨va, vc, rfl, hva⟩ := ownsRow_formK hod.1
    have HD : Hid (OwnDocs w1 w.heap.size (.slice va xs.length vc) xs) := hod
    obtain ⟨nx, hnx⟩ : ∃ nx, xs.length = nx := ⟨_, rfl⟩
    have HNX : Hid (xs.length = nx) := hnx
    have HVA : Hid (nx = 0 ∨ ∃ g, va = some ⟨g, 0, none⟩ ∧ w.heap.size ≤ g) := by rw [← hnx]; exact hva
    have HNL : Hid (nx ≤ 9223372036854775807) := by
      have h1 := hod.1.2
      show nx ≤ 9223372036854775807
      rcases h1 with ⟨_, h2⟩ | ⟨_, _, _, e, _, _, h4, h5, _⟩
      · omega
      · have : maxLen = 9223372036854775807 := rfl
        omega
    rw [hnx] at HD ⊢
    have hnl := HNL.out
    have hnil : w1.ownsRow w1.heap.size 22 1 (.slice none 0 0) 0 [] := World.ownsRow_nil _ _ _ _
    clear hgl hin hod hb hcl hnx hva
    go_wp2_with (first
      | (at_builtin; refine wpList_append_own _ rfl _ _ 37 rfl w1.heap.size 22 i0 (.int .u64 0) 1 8 Try.underlying37 hi hz0 hz1 hz2 rfl (by decide) _ 0 [] rfl hnil ⟨b, o, none⟩ n c (rowI g n) rfl (by rw [rowI_len]; omega) hnews (rowI_one _ _) (by unfold maxLen; omega) (by omega) (Nat.le_refl _) ?_; intro v' w2 hrow hgr _)
      | fail)
    simp only [Nat.zero_add, List.nil_append] at hrow
    obtain ⟨ga, gc, rfl, hga⟩ := ownsRow_form0 hrow
    obtain ⟨G, rfl, hGb⟩ := hga.resolve_left (by have := HN.out; omega)
    have HR2 : Hid (OwnU w2 w1.heap.size G gc g) := by
      have h1 := hrow
      rw [HN.out] at h1
      exact h1
    have HB2 : Hid (Below w1.heap.size w1 w2) := (Below.refl _ _).grown hgr (Nat.le_refl _) (fun k hk => by cases hk)
    have HGB : Hid (w1.heap.size ≤ G) := hGb
    clear hrow hgr hGb hga hnews hnil
    go_wp2
    go_loopw [8, 9] (fun iv kv wr => ∃ i : Nat, i ≤ nx ∧ iv = .int .i64 i ∧ Hid (OwnU wr w1.heap.size G gc (updRecs g ((xs.take i).map RecX.doc)) ∧ Below w1.heap.size w1 wr)) (fun iv _ _ => nx - (intOf iv).toNat)
    case atStart => exact ⟨0, Nat.zero_le _, rfl, HR2.out, HB2.out⟩
    case round =>
      obtain ⟨i, hil, rfl, HR⟩ := hrel
      by_cases hlt : i < nx
      · have hit : (i : Int) < (nx : Int) := by omega
        obtain ⟨gx, rfl, hgx⟩ := HVA.out.resolve_left (by omega)
        obtain ⟨x, hx⟩ : ∃ x : RecX, xs[i]! = x := ⟨_, rfl⟩
        have HX : Hid (xs[i]! = x) := hx
        have hmem : x ∈ xs := by rw [← hx, getElem!_pos xs i (by have := HNX.out; omega)]; exact List.getElem_mem _
        have hat := HIN.out x hmem
        obtain ⟨S, hS⟩ : ∃ S : Nat, x.at_ = S := ⟨x.at_.toNat, by omega⟩
        have hS4 : (S : Int) < 4 := by omega
        have HS : Hid (x.at_ = S) := hS
        obtain ⟨m, hm⟩ : ∃ m, x.cs.length = m := ⟨_, rfl⟩
        have HM : Hid (x.cs.length = m) := hm
        have HDC : Hid (∀ wz, Below w1.heap.size w1 wz → wz.cell? ⟨gx, i * 3, none⟩ = some (.int .i64 S) ∧ wz.cell? ⟨gx, i * 3 + 2, none⟩ = some (.slice x.a m x.c)) := fun wz hz => by
          have h1 := HD.out.later hz
          rw [← HNX.out] at h1
          obtain ⟨d0, _, d2⟩ := doc_at h1 i (by have := HNX.out; omega)
          rw [hx, hS] at d0
          rw [hx, hm] at d2
          exact ⟨d0, d2⟩
        obtain ⟨A, hA⟩ : ∃ A, x.a = A := ⟨_, rfl⟩
        obtain ⟨C, hC⟩ : ∃ C, x.c = C := ⟨_, rfl⟩
        have HC : Hid (∀ wz, Below w1.heap.size w1 wz → ChgsAt wz A x.cs) := fun wz hz => by
          have h1 := HD.out.2 x hmem
          obtain ⟨a', c', e, _, h2, _⟩ := h1.at
          cases e
          rw [← hA]
          exact h2.later (Nat.le_refl _) hz
        have HK : Hid (∀ k, k < m → ∃ X : Nat, (x.cs.getD k (0, 0)).1 = X ∧ X < 2824) := fun k hk => by
          have h1 := HINS.out x hmem _ (getD_in (cs := x.cs) (i := k) (by omega))
          exact ⟨(x.cs.getD k (0, 0)).1.toNat, by omega, by omega⟩
        have hml : m ≤ 9223372036854775807 := by
          have h1 := (HD.out.2 x hmem).2
          rcases h1 with ⟨_, h2⟩ | ⟨_, _, _, e, _, _, h4, h5, _⟩
          · omega
          · have : maxLen = 9223372036854775807 := rfl
            omega
        rw [hA, hC] at HDC
        obtain ⟨f, hf⟩ : ∃ f, updRecs g ((xs.take i).map RecX.doc) = f := ⟨_, rfl⟩
        have HF : Hid (updRecs g ((xs.take i).map RecX.doc) = f) := hf
        rw [hf] at HR
        obtain ⟨c0, c2⟩ := HDC.out wr HR.out.2
        clear hx hmem hat hS hm hA hC hf
        go_wp2
        go_loopw [9] (fun kv wq => ∃ k : Nat, k ≤ m ∧ kv = .int .i64 k ∧ Hid (OwnU wq w1.heap.size G gc (updCs f (x.cs.take k)) ∧ Below w1.heap.size w1 wq)) (fun kv _ => m - (intOf kv).toNat)
        case atStart => exact ⟨0, Nat.zero_le _, rfl, HR.out.1, HR.out.2⟩
        case round =>
          clear c0 c2 HR
          obtain ⟨k, hkl, rfl, HQ⟩ := hrel
          obtain ⟨c0, c2⟩ := HDC.out wr HQ.out.2
          by_cases hkm : k < m
          · have hkt : (k : Int) < (m : Int) := by omega
            obtain ⟨b2, o2, rfl, hb2, hc2⟩ := (HC.out wr HQ.out.2).resolve_left (fun e => by have := HM.out; rw [e] at this; simp at this; omega)
            obtain ⟨y1, y2⟩ := hc2 k (by have := HM.out; omega)
            obtain ⟨X, hX, hXl⟩ := HK.out k hkm
            have HUP : Hid (updCs f (x.cs.take (k + 1)) = updN (updCs f (x.cs.take k)) X (x.cs.getD k (0, 0)).2) := by
              have h1 := updCs_take f x.cs k (by have := HM.out; omega)
              rw [hX, Int.toNat_natCast] at h1
              exact h1
            rw [hX] at y1
            obtain ⟨Y, hY⟩ : ∃ Y, (x.cs.getD k (0, 0)).2 = Y := ⟨_, rfl⟩
            rw [hY] at y2 HUP
            have hXn : (X : Int) < (n : Int) := by omega
            obtain ⟨x3, fz⟩ := HQ.out.1.cell X hXl
            obtain ⟨u, hu⟩ : ∃ u, updCs f (x.cs.take k) X = u := ⟨_, rfl⟩
            rw [hu] at x3
            clear hX hY hc2 hXl hu
            go_wp2
            go_region
            all_goals
              go_wp2
              go_roundw
              case rel =>
                refine ⟨k + 1, by omega, by go_num, ?_, ?_⟩
                · rw [HUP.out]
                  first
                    | exact HQ.out.1.set X Y
                    | exact HQ.out.1.drew.set X Y
                · exact (HQ.out.2.drew).setCell (p := ⟨G, X, none⟩) HGB.out _
              case measure => simp [intOf]; omega
          · have hkk : k = m := by omega
            have hkt : ¬ (k : Int) < (m : Int) := by omega
            obtain ⟨P, hP⟩ : ∃ P : Nat, 296 + 248 * S = P := ⟨_, rfl⟩
            have hPi : 296 + 248 * (S : Int) = (P : Int) := by omega
            have hPn : (P : Int) < (n : Int) := by omega
            obtain ⟨x3, fz⟩ := HQ.out.1.cell P (by omega)
            obtain ⟨u, hu⟩ : ∃ u, updCs f (x.cs.take k) P = u := ⟨_, rfl⟩
            rw [hu] at x3
            have HUP : Hid (updRecs g ((xs.take (i + 1)).map RecX.doc) = updN (updCs f (x.cs.take k)) P 0) := by
              have h1 := updRecs_take g xs i (by have := HNX.out; omega)
              rw [HX.out, HF.out] at h1
              rw [h1]
              unfold updRec
              have e1 : x.doc.at_.toNat = P := by
                show (296 + 248 * x.at_).toNat = P
                rw [HS.out]; omega
              have e2 : x.cs.take k = x.cs := List.take_of_length_le (by have := HM.out; omega)
              rw [e1, e2]
              rfl
            clear hu hP hkk
            go_wp2
            go_roundw
            case rel =>
              refine ⟨i + 1, by omega, by go_num, ?_, ?_⟩
              · rw [HUP.out]
                first
                  | exact HQ.out.1.set P 0
                  | exact HQ.out.1.drew.set P 0
              · first
                  | exact (HQ.out.2).setCell (p := ⟨G, P, none⟩) HGB.out _
                  | exact (HQ.out.2.drew).setCell (p := ⟨G, P, none⟩) HGB.out _
            case measure => simp [intOf]; omega
      · obtain rfl : i = nx := by omega
        go_wp2
        go_ret3
        have hl := HNX.out
        subst hl
        have hn := HN.out
        subst hn
        refine ⟨.inr ⟨G, gc, xs.map RecX.doc, by rw [List.length_map]; rfl, HGL.out, ?_⟩, ?_⟩
        · have h1 := HR.out.1
          rw [List.take_length] at h1
          exact h1.down HB1.out.size
        · exact HB1.out.trans (HR.out.2.mono HB1.out.size)
end Go.Proofs.Ytfalchacdebdpaa
