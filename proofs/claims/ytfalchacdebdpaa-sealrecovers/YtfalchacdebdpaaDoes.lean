/- Contract of Do: a step is done. -/
import Derived.Test.YtfalchacdebdpaaFence
namespace Go.Proofs.Ytfalchacdebdpaa
open Go.RowKit Go.Maps Go.ChangeMaps

/-- A step as a value. -/
def Stp.val (s : Stp) : Value := .agg #[.int .i64 s.kind, .int .i64 s.at_, .int .u64 s.v]
/-- A step's numbers are numbers of their kinds. -/
def Stp.Ok (s : Stp) : Prop := (Lit.int .i64 s.at_).wf = true ∧ (Lit.int .u64 s.v).wf = true

theorem stp_cells (w : World) (k a v : Int) : (w.alloc (.cells #[.int .i64 k, .int .i64 a, .int .u64 v] 34)).cell? ⟨w.heap.size, 0, none⟩ = some (.int .i64 k) ∧ (w.alloc (.cells #[.int .i64 k, .int .i64 a, .int .u64 v] 34)).cell? ⟨w.heap.size, 1, none⟩ = some (.int .i64 a) ∧ (w.alloc (.cells #[.int .i64 k, .int .i64 a, .int .u64 v] 34)).cell? ⟨w.heap.size, 2, none⟩ = some (.int .u64 v) := by
  refine ⟨?_, ?_, ?_⟩ <;> rw [World.cell?_alloc_at _ _ _ _ rfl] <;> rfl

theorem only_new {L : Lay} {w w' : World} {o : Obj} (h : Only L.blocks (w.alloc o) w') : Only L.blocks w w' := ((Only.refl _ w).alloc o).trans h

set_option maxHeartbeats 2000000 in
theorem do_any (L : Lay) (M : Mem) (s : Stp) (w : World) (h : MemIs w L M) (hc : M.calls < 1000000000) (hs : s.Ok) :
    Calls Try.prog 21 #[.pointer (some ⟨L.mb, 0, none⟩), s.val] w fun e w' => e = .returned (.int .i64 (M.ans s)) ∧ MemIs w' L (M.act s) ∧ Only L.blocks w w' := by
  obtain ⟨k, a, v⟩ := s
  obtain ⟨hs1, hs2⟩ := hs
  have hst := store_any L M a v
  have hfl := flush_any L M a
  have hfe := fence_any L M
  unfold Stp.val
  show Calls Try.prog 21 #[.pointer (some ⟨L.mb, 0, none⟩), .agg #[.int .i64 k, .int .i64 a, .int .u64 v]] w _
  by_cases h1 : k = 1
  · subst h1
    have e1 : M.ans ⟨1, a, v⟩ = M.errAt a := by simp [Mem.ans]
    have e2 : M.act ⟨1, a, v⟩ = M.store a v := by simp [Mem.act]
    rw [e1, e2]
    go_enter Try.func21, Try.ntmps21
    go_wp2_with (first
      | (go_at_call 46; refine (hst _ (h.alloc _) hc hs1 hs2).mono ?_; rintro e w' ⟨rfl, h1, o1⟩)
      | go_in)
    go_ret
    exact ⟨rfl, h1, only_new o1⟩
  · by_cases h2 : k = 2
    · subst h2
      have e1 : M.ans ⟨2, a, v⟩ = M.errAt a := by simp [Mem.ans]
      have e2 : M.act ⟨2, a, v⟩ = M.flush a := by simp [Mem.act]
      rw [e1, e2]
      go_enter Try.func21, Try.ntmps21
      go_wp2_with (first
        | (go_at_call 47; refine (hfl _ (h.alloc _) hc).mono ?_; rintro e w' ⟨rfl, h1, o1⟩)
        | go_in)
      go_ret
      exact ⟨rfl, h1, only_new o1⟩
    · by_cases h3 : k = 3
      · subst h3
        have e1 : M.ans ⟨3, a, v⟩ = M.err := by simp [Mem.ans]
        have e2 : M.act ⟨3, a, v⟩ = M.fence := by simp [Mem.act]
        rw [e1, e2]
        go_enter Try.func21, Try.ntmps21
        go_wp2_with (first
          | (go_at_call 48; refine (hfe _ (h.alloc _) hc).mono ?_; rintro e w' ⟨rfl, h1, o1⟩)
          | go_in)
        go_ret
        exact ⟨rfl, h1, only_new o1⟩
      · have e1 : M.ans ⟨k, a, v⟩ = 1 := by simp [Mem.ans, h1, h2, h3]
        have e2 : M.act ⟨k, a, v⟩ = M := by simp [Mem.act, h1, h2, h3]
        rw [e1, e2]
        go_enter Try.func21, Try.ntmps21
        go_wp2
        go_ret
        exact ⟨rfl, h.alloc _, (Only.refl _ w).alloc _⟩

end Go.Proofs.Ytfalchacdebdpaa
