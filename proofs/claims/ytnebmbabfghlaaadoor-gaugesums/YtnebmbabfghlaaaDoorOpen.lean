/- What lists of float64, three float64s and two ints that came in are. -/
import Derived.Test.YtnebmbabfghlaaaDoorReads
import Derived.Deep.Slices
import Derived.ProofKit
import Derived.OpenShut
import Derived.SizedLaws
import Derived.Laws.Cover2
namespace Go.Proofs.YtnebmbabfghlaaaDoor
open Go.RowKit Go.ChangeMaps Go.Deep Go.WideShapes

/-- An address whose cell is there has no spot. -/
theorem spot_none {w : World} {a : Addr} {v : Value} (h : w.cell? a = some v) : a = ⟨a.block, a.off, none⟩ := by
  obtain ⟨b, o, s⟩ := a
  cases s with
  | none => rfl
  | some x =>
    unfold World.cell? at h
    split at h
    · simp at h
    · cases h
theorem add_none (b o i : Nat) : (⟨b, o, none⟩ : Addr).add i = ⟨b, o + i, none⟩ := by
  unfold Addr.add
  by_cases e : i = 0 <;> simp [e]

section
variable {H : Type} {enc : TypeId × Value → H} {W : World}

theorem trod_float {P : Program} {base : Nat} {spare : Nat → Bool} {held : Bool} {fuel : Nat} {t : TypeId} {cs : List Value} {x : DataW H × List MemPlace} {k : FloatKind} (ht : P.underlying t = some (.float k)) (h : DataW.trod enc P W base spare held fuel t cs = some x) :
    ∃ n, cs = [.float k n] ∧ x = (.lit (.float k n), []) ∧ (Lit.float k n).wf = true := by
  cases fuel with
  | zero => simp [DataW.trod] at h
  | succ n =>
    unfold DataW.trod at h
    rw [ht] at h
    split at h <;> simp_all
theorem trod_float1 {n : Nat} {cs : List Value} {x : DataW H × List MemPlace} (h : DataW.trod enc Tryd.prog W 0 (fun _ => true) true n 23 cs = some x) : ∃ b, cs = [.float .f64 b] ∧ b < 18446744073709551616 := by
  obtain ⟨b, h1, _, h3⟩ := trod_float Tryd.underlying23 h
  exact ⟨b, h1, by simpa [Lit.wf] using h3⟩

theorem open_floats {v : Value} {d : DataW H} {p : List MemPlace} {a : Option Addr} {len cap : Nat} (hv : v = .slice a len cap) (h : DataW.Trod enc Tryd.prog W 0 (fun _ => true) true 22 v d p) :
    ∃ xs : List Nat, xs.length = len ∧ (d = .nil ∧ cap = 0 ∨ ∃ el sp, d = .slice el sp ∧ el.length + sp.length = cap) ∧ (cap ≤ 140737488351232 → FIn W a cap xs) := by
  subst hv
  obtain ⟨fuel, hf⟩ := h
  have hf' : DataW.trod enc Tryd.prog W 0 (fun _ => true) true fuel 22 [.slice a len cap] = some (d, p) := hf
  rcases open_slice1 Tryd.underlying22 (by kernel_rfl) hf' with ⟨hc, hd⟩ | ⟨x, l, c, m, n', V, D, Pl, hc, _, hl, hm, hmm, hd, hx⟩
  · simp at hc
    obtain ⟨rfl, rfl, rfl⟩ := hc
    simp at hd
    exact ⟨[], rfl, .inl ⟨hd.1, rfl⟩, fun _ => ⟨by simp, by omega, fun _ => ⟨rfl, rfl⟩, by simp, by simp, .inl rfl⟩⟩
  · simp at hc
    obtain ⟨rfl, rfl, rfl⟩ := hc
    have hm' : m = cap := by simpa using hmm
    subst hm'
    have hB : ∀ i, i < m → ∃ b : Nat, V i = .float .f64 b ∧ b < 18446744073709551616 := fun i hi => by
      obtain ⟨b, hb, hlt⟩ := trod_float1 (hx i hi).2
      exact ⟨b, by simpa using hb, hlt⟩
    obtain ⟨B, hB'⟩ := choose_lt hB
    simp only [Prod.mk.injEq] at hd
    refine ⟨(List.range len).map B, by simp, .inr ⟨_, _, hd.1, by simp; omega⟩, fun hcap => ⟨by simpa using hl, hcap, (fun h => by simp at h), by simp; omega, ?_, ?_⟩⟩
    · intro y hy
      have hy' := List.mem_of_mem_take hy
      simp at hy'
      obtain ⟨i, hi, rfl⟩ := hy'
      exact (hB' i (by omega)).2
    · by_cases h0 : len = 0
      · left; subst h0; rfl
      · right
        have c0 := (hx 0 (by omega)).1
        have e0 : x = ⟨x.block, x.off, none⟩ := spot_none (by simpa [Addr.add] using c0)
        refine ⟨x.block, x.off, by rw [← e0], World.block_lt_of_cell? W x (by simpa [Addr.add] using c0), ?_⟩
        intro i hi
        simp at hi
        have := (hx i (by omega)).1
        rw [e0, add_none, (hB' i (by omega)).1] at this
        rw [this]
        have h100 : i < 100 := by omega
        have hil : i < len := by omega
        simp [nth, h100, hil]
end
end Go.Proofs.YtnebmbabfghlaaaDoor
