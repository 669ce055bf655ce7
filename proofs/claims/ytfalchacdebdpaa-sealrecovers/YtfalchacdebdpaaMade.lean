/- Contract of the laws' made; the words of two logs that are sealed in turn. -/
import Derived.Test.YtfalchacdebdpaaArgs
namespace Go.Proofs.Ytfalchacdebdpaa
open Go.RowKit Go.Maps Go.ChangeMaps Go.Shelf

/-- Do the first k read as they are to be? -/
def madeTo (M : Mem) (cs : List Chg) (f : Nat → Int) (k : Nat) : Prop := ∀ i, i < k → M.read (cs.getD i (0, 0)).1 = f i
def madeDec (M : Mem) (cs : List Chg) (f : Nat → Int) (k : Nat) : Decidable (madeTo M cs f k) := by unfold madeTo; infer_instance
def madeB (M : Mem) (cs : List Chg) (f : Nat → Int) : Bool := @decide (madeTo M cs f cs.length) (madeDec M cs f cs.length)
theorem madeB_yes {M : Mem} {cs : List Chg} {f : Nat → Int} : madeB M cs f = true ↔ madeTo M cs f cs.length := ⟨fun h => @of_decide_eq_true _ (madeDec _ _ _ _) h, fun h => @decide_eq_true _ (madeDec _ _ _ _) h⟩
theorem madeB_no {M : Mem} {cs : List Chg} {f : Nat → Int} : madeB M cs f = false ↔ ¬ madeTo M cs f cs.length := by
  rw [← madeB_yes]; cases madeB M cs f <;> simp

set_option maxHeartbeats 4000000 in
theorem made_any (L : Lay) (M : Mem) (G : Nat) (g : Nat → Int) (wv : Value) (b : Bool) (a : Option Addr) (cap : Nat) (cs : List Chg) (f : Nat → Int) (w : World) (h : MemIs w L M) (hc : ChgsAt w a cs) (hok : ChgOk cs) (hl : cs.length ≤ 1000)
    (hw : b = true ∧ (∀ i, i < cs.length → f i = (cs.getD i (0, 0)).2) ∨ b = false ∧ wv = .slice (some ⟨G, 0, none⟩) 2824 2824 ∧ RowIs w G g ∧ ∀ i, i < cs.length → 0 ≤ (cs.getD i (0, 0)).1 ∧ (cs.getD i (0, 0)).1 < 2824 ∧ f i = g (cs.getD i (0, 0)).1.toNat) :
    Calls Try.prog 26 #[.pointer (some ⟨L.mb, 0, none⟩), wv, .slice a cs.length cap, .bool b] w fun e w' => e = .returned (.bool (madeB M cs f)) ∧ w' = w := by
  have hrd := fun k hk => read_any L M k w h hk
  have HRD : Hid (∀ k, (Lit.int .i64 k).wf = true → Calls Try.prog 27 #[.pointer (some ⟨L.mb, 0, none⟩), .int .i64 k] w fun e w' => e = .returned (.int .u64 (M.read k)) ∧ w' = w) := hrd
  have HC : Hid (ChgsAt w a cs) := hc
  have HOK : Hid (ChgOk cs) := hok
  obtain ⟨res, hres⟩ : ∃ r, madeB M cs f = r := ⟨_, rfl⟩
  have HR : Hid (madeB M cs f = res) := hres
  rw [hres]
  obtain ⟨n, hn⟩ : ∃ n, cs.length = n := ⟨_, rfl⟩
  have HN : Hid (cs.length = n) := hn
  rw [hn] at hw hl ⊢
  have HMN : Hid (¬ madeTo M cs f n → res = false) := fun e => by rw [← hres]; exact madeB_no.2 (by rw [hn]; exact e)
  have HMY : Hid (madeTo M cs f n → res = true) := fun e => by rw [← hres]; exact madeB_yes.2 (by rw [hn]; exact e)
  clear hrd hc hok hres hn h
  rcases hw with ⟨rfl, hf⟩ | ⟨rfl, rfl, hrow, hf⟩
  · have HF : Hid (∀ i, i < n → f i = (cs.getD i (0, 0)).2) := hf
    clear hf
    go_enter Try.func26, Try.ntmps26
    go_wp2
    go_loopw [9, 10] (fun i _ wr => ∃ k : Nat, k ≤ n ∧ i = .int .i64 k ∧ wr = w ∧ Hid (madeTo M cs f k)) (fun i _ _ => n - (intOf i).toNat)
    case atStart => exact ⟨0, Nat.zero_le _, rfl, rfl, fun i hi => absurd hi (Nat.not_lt_zero i)⟩
    case round =>
      obtain ⟨k, hk, rfl, rfl, hm⟩ := hrel
      by_cases hlt : k < n
      · obtain ⟨bb, o, rfl, hb, hcc⟩ := HC.out.resolve_left (fun e => by have := HN.out; rw [e] at this; simp at this; omega)
        have hkn : (k : Int) < (n : Int) := by omega
        have x1 := (hcc k (by rw [HN.out]; exact hlt)).1
        have x2 := (hcc k (by rw [HN.out]; exact hlt)).2
        have hwf := (HOK.out k (by rw [HN.out]; exact hlt)).1
        have HFK : Hid (f k = (cs.getD k (0, 0)).2) := HF.out k hlt
        have HMK : Hid (∀ x y, (cs.getD k (0, 0)).1 = x → (cs.getD k (0, 0)).2 = y → (M.read x = y → madeTo M cs f (k + 1)) ∧ (M.read x ≠ y → res = false)) := fun x y hx hy => ⟨fun e i hi => by
          by_cases h : i = k
          · subst h; rw [hx, HFK.out, hy]; exact e
          · exact hm.out i (by omega), fun e => HMN.out fun hh => e (by have := hh k hlt; rw [hx, HFK.out, hy] at this; exact this)⟩
        clear hcc
        obtain ⟨X, hX⟩ : ∃ X, (cs.getD k (0, 0)).1 = X := ⟨_, rfl⟩
        obtain ⟨Y, hY⟩ : ∃ Y, (cs.getD k (0, 0)).2 = Y := ⟨_, rfl⟩
        have HMX : Hid _ := HMK.out X Y hX hY
        rw [hX] at x1 hwf
        rw [hY] at x2
        obtain ⟨R, hR⟩ : ∃ R, M.read X = R := ⟨_, rfl⟩
        rw [hR] at HMX
        have hrd := HRD.out X hwf
        rw [hR] at hrd
        have HRX : Hid (Calls Try.prog 27 #[.pointer (some ⟨L.mb, 0, none⟩), .int .i64 X] wr fun e w' => e = .returned (.int .u64 R) ∧ w' = wr) := hrd
        clear hX hY hR hrd HMK
        by_cases hRY : R = Y
        · subst hRY
          have q1 : (R != R) = false := by simp
          have HMZ : Hid (madeTo M cs f (k + 1)) := HMX.out.1 rfl
          clear HMX
          go_wp2_with (first | (go_at_call 27; refine (Hid.out HRX).mono ?_; rintro e w' ⟨rfl, hw⟩; obtain rfl := hw.symm) | go_in)
          go_roundw
          case rel => exact ⟨k + 1, by omega, by go_num, by first | rfl | trivial, HMZ.out⟩
          case measure => simp [intOf]; omega
        · have q1 : (R != Y) = true := by simpa using hRY
          have HMZ : Hid (res = false) := HMX.out.2 hRY
          clear HMX hRY
          go_wp2_with (first | (go_at_call 27; refine (Hid.out HRX).mono ?_; rintro e w' ⟨rfl, hw⟩; obtain rfl := hw.symm) | go_in)
          go_ret
          exact ⟨ret_bool HMZ.out.symm, rfl⟩
      · obtain rfl : k = n := by omega
        go_wp2
        go_ret
        exact ⟨ret_bool (HMY.out hm.out).symm, rfl⟩
  · have HF : Hid (∀ i, i < n → 0 ≤ (cs.getD i (0, 0)).1 ∧ (cs.getD i (0, 0)).1 < 2824 ∧ f i = g (cs.getD i (0, 0)).1.toNat) := hf
    have HROW : Hid (RowIs w G g) := hrow
    clear hf hrow
    go_enter Try.func26, Try.ntmps26
    go_wp2
    go_loopw [9, 10] (fun i _ wr => ∃ k : Nat, k ≤ n ∧ i = .int .i64 k ∧ wr = w ∧ Hid (madeTo M cs f k)) (fun i _ _ => n - (intOf i).toNat)
    case atStart => exact ⟨0, Nat.zero_le _, rfl, rfl, fun i hi => absurd hi (Nat.not_lt_zero i)⟩
    case round =>
      obtain ⟨k, hk, rfl, rfl, hm⟩ := hrel
      by_cases hlt : k < n
      · obtain ⟨bb, o, rfl, hb, hcc⟩ := HC.out.resolve_left (fun e => by have := HN.out; rw [e] at this; simp at this; omega)
        have hkn : (k : Int) < (n : Int) := by omega
        have x1 := (hcc k (by rw [HN.out]; exact hlt)).1
        have x2 := (hcc k (by rw [HN.out]; exact hlt)).2
        have hwf := (HOK.out k (by rw [HN.out]; exact hlt)).1
        obtain ⟨hf0, hf1, hf2⟩ := HF.out k hlt
        obtain ⟨X, hX⟩ : ∃ X : Nat, (cs.getD k (0, 0)).1 = (X : Int) := ⟨(cs.getD k (0, 0)).1.toNat, by omega⟩
        have hXX : ((X : Int)).toNat = X := by omega
        rw [hX, hXX] at hf2
        rw [hX] at hf1
        obtain ⟨Y, hY⟩ : ∃ Y, g X = Y := ⟨_, rfl⟩
        obtain ⟨Z, hZ⟩ : ∃ Y, (cs.getD k (0, 0)).2 = Y := ⟨_, rfl⟩
        have x3 := HROW.out.cell X (by omega)
        rw [hY] at x3 hf2
        have HMX : Hid ((M.read X = Y → madeTo M cs f (k + 1)) ∧ (M.read X ≠ Y → res = false)) := ⟨fun e i hi => by
          by_cases h : i = k
          · subst h; rw [hX, hf2]; exact e
          · exact hm.out i (by omega), fun e => HMN.out fun hh => e (by have := hh k hlt; rw [hX, hf2] at this; exact this)⟩
        rw [hX] at x1 hwf
        rw [hZ] at x2
        obtain ⟨R, hR⟩ : ∃ R, M.read X = R := ⟨_, rfl⟩
        rw [hR] at HMX
        have hrd := HRD.out X hwf
        rw [hR] at hrd
        have HRX : Hid (Calls Try.prog 27 #[.pointer (some ⟨L.mb, 0, none⟩), .int .i64 X] wr fun e w' => e = .returned (.int .u64 R) ∧ w' = wr) := hrd
        have hX3 : (X : Int) < 2824 := hf1
        clear hX hY hR hrd hcc hf2 hZ hf0 hXX
        by_cases hRY : R = Y
        · subst hRY
          have q1 : (R != R) = false := by simp
          have HMZ : Hid (madeTo M cs f (k + 1)) := HMX.out.1 rfl
          clear HMX
          go_wp2_with (first | (go_at_call 27; refine (Hid.out HRX).mono ?_; rintro e w' ⟨rfl, hw⟩; obtain rfl := hw.symm) | go_in)
          go_roundw
          case rel => exact ⟨k + 1, by omega, by go_num, by first | rfl | trivial, HMZ.out⟩
          case measure => simp [intOf]; omega
        · have q1 : (R != Y) = true := by simpa using hRY
          have HMZ : Hid (res = false) := HMX.out.2 hRY
          clear HMX hRY
          go_wp2_with (first | (go_at_call 27; refine (Hid.out HRX).mono ?_; rintro e w' ⟨rfl, hw⟩; obtain rfl := hw.symm) | go_in)
          go_ret
          exact ⟨ret_bool HMZ.out.symm, rfl⟩
      · obtain rfl : k = n := by omega
        go_wp2
        go_ret
        exact ⟨ret_bool (HMY.out hm.out).symm, rfl⟩

end Go.Proofs.Ytfalchacdebdpaa
