/- Contracts of the memory's small calls: how many words, how many calls, counting. -/
import Derived.Test.YtfalchacdebdpaaMem
import Derived.BigQuiet
namespace Go.Proofs.Ytfalchacdebdpaa
open Go.RowKit Go.Maps Go.ChangeMaps

theorem ret_int {k : IntKind} {a b : Int} (h : a = b) : Ending.returned (.int k a) = .returned (.int k b) := by rw [h]
theorem ret_bool {a b : Bool} (h : a = b) : Ending.returned (.bool a) = .returned (.bool b) := by rw [h]

theorem size_any (L : Lay) (M : Mem) (w : World) (h : MemIs w L M) :
    Calls Try.prog 28 #[.pointer (some ⟨L.mb, 0, none⟩)] w fun e w' => e = .returned (.int .i64 M.sure.length) ∧ w' = w := by
  have c0 := h.c0
  clear h
  go_enter Try.func28, Try.ntmps28
  go_wp2
  go_ret
  exact ⟨rfl, rfl⟩

theorem calls_any (L : Lay) (M : Mem) (w : World) (h : MemIs w L M) :
    Calls Try.prog 17 #[.pointer (some ⟨L.mb, 0, none⟩)] w fun e w' => e = .returned (.int .i64 M.calls) ∧ w' = w := by
  have c3 := h.c3
  clear h
  go_enter Try.func17, Try.ntmps17
  go_wp2
  go_ret
  exact ⟨rfl, rfl⟩

theorem count_any (L : Lay) (M : Mem) (w : World) (h : MemIs w L M) (hc : M.calls < 1000000000) :
    Calls Try.prog 67 #[.pointer (some ⟨L.mb, 0, none⟩)] w fun e w' => e = .returned (.int .i64 M.err) ∧ MemIs w' L M.counted ∧ Only [L.mb] w w' := by
  have c3 := h.c3
  have c4 := h.c4
  have c5 := h.c5
  have f3 := h.fz 3
  have fin : ∀ q, MemIs ((w.drewN q).setCell ⟨L.mb, 3, none⟩ (.int .i64 ((M.calls : Int) + 1))) L M.counted ∧ Only [L.mb] w ((w.drewN q).setCell ⟨L.mb, 3, none⟩ (.int .i64 ((M.calls : Int) + 1))) := by
    intro q
    have hd : MemIs (w.drewN q) L M := ⟨h.obj, h.row, h.place, h.loose, h.way, h.ne, h.looseIn, h.wayIn, h.len, h.words⟩
    have ho : Only [L.mb] w (w.drewN q) := ⟨rfl, rfl, rfl, Nat.le_refl _, fun _ _ _ => rfl⟩
    refine ⟨?_, ho.setCell (by simp) _⟩
    have e : ((M.calls : Int) + 1) = ((M.calls + 1 : Nat) : Int) := by omega
    rw [e]
    exact hd.fields (Nat.le_succ _) (heap_set3 hd.obj _) (fun k hk => Below.heap_setCell _ _ _ _ hk)
  clear h
  cases hs : M.stops with
  | false =>
    rw [hs] at c4
    have herr : M.err = 0 := by simp [Mem.err, Mem.still, hs]
    rw [herr]
    go_enter Try.func67, Try.ntmps67
    go_wp2
    go_quiet (fail)
    go_wp2
    go_ret
    exact ⟨rfl, fin _⟩
  | true =>
    rw [hs] at c4
    by_cases ht : M.stopAt ≤ M.calls
    · have herr : M.err = 14 := by simp [Mem.err, Mem.still, hs, ht]
      rw [herr]
      have ht' : decide (M.stopAt ≤ (M.calls : Int)) = true := by simpa using ht
      go_enter Try.func67, Try.ntmps67
      go_wp2
      go_quiet (fail)
      go_wp2
      go_ret
      exact ⟨rfl, fin _⟩
    · have herr : M.err = 0 := by simp [Mem.err, Mem.still, hs, ht]
      rw [herr]
      have ht' : decide (M.stopAt ≤ (M.calls : Int)) = false := by simpa using ht
      go_enter Try.func67, Try.ntmps67
      go_wp2
      go_quiet (fail)
      go_wp2
      go_ret
      exact ⟨rfl, fin _⟩

end Go.Proofs.Ytfalchacdebdpaa
