/- What lists of texts that came in are; that the library's variable holds an integer; that there is an input that fits. -/
import Derived.Test.YtlpikfebbfcofaaDoorShelf
import Derived.Deep.DeepHandedRow
import Derived.SliceStrings
import Derived.ProofKit
import Derived.OpenShut
import Derived.SizedLaws
import Derived.Shelf.Vars
namespace Go.Proofs.YtlpikfebbfcofaaDoor
open Go.RowKit Go.ChangeShapes Go.WideShapes

theorem hm_of {W : World} (h : W.ShapedOpen Tryd.prog) : HM W :=
  cell_of_shapedOpen_int (P := Tryd.prog) (g := 0) (t := 3) (zero := #[.int .i64 0]) h (of_decide_eq_true (by kernel_rfl)) (by kernel_rfl) rfl (by kernel_rfl) (by kernel_rfl) Tryd.underlying3

/-- 'There is an input that fits', at a world whose shape is shown. -/
theorem witness_row_shaped {H : Type} {enc : TypeId × Value → H} {C : Checked} {os : Os} {f : FuncId} {fn : Func} {s : OpenSpec} {conds : List PathCond} {apart : Bool} {laid : List (String × DataW Unit)} (modest : Bool) (w0 : World) (args : Array Value) (hos : w0.os = os)
    (hsh : (w0.forCall (fun _ _ => 0) ⟨#[], args, []⟩).Shaped C.prog)
    (hok : Input.okWideB C.prog (w0.forCall (fun _ _ => 0) ⟨#[], args, []⟩) f ⟨#[], args, []⟩ = true)
    (hrow : s.preRow enc C.prog fn conds apart laid (w0.forCall (fun _ _ => 0) ⟨#[], args, []⟩).memory args) :
    ∃ (w : World) (tape : Tape) (i : Input), w.os = os ∧ (w.forCall tape i).Shaped C.prog ∧ i.vars = [] ∧ Input.okWide C.prog (w.forCall tape i) .any w.heap.size f i ∧
      s.preRow enc C.prog fn conds apart laid (w.forCall tape i).memory i.args ∧ ({ modest := modest } : Assume).holds C.prog (lone (Frame.enter C.prog f i.args .normal) [] (w.forCall tape i)) :=
  ⟨w0, fun _ _ => 0, ⟨#[], args, []⟩, hos, hsh, (Input.okWide_of_okWideB (base := 0) hok).1, (Input.okWide_of_okWideB hok).2, hrow, by
    simp only [Assume.holds]
    exact ⟨by simp, by simp, fun _ => Modest.zero, by simp, by simp⟩⟩

/-- An address whose cell is there has no spot. -/
theorem spot_none {w : World} {a : Addr} {v : Value} (h : w.cell? a = some v) : a = ⟨a.block, a.off, none⟩ := by
  obtain ⟨b, o, s⟩ := a
  cases s with
  | none => rfl
  | some x =>
    unfold World.cell? at h
    split at h
    · simp at h
    · cases h
theorem add_none (b o i : Nat) : (⟨b, o, none⟩ : Addr).add i = ⟨b, o + i, none⟩ := by
  unfold Addr.add
  by_cases e : i = 0 <;> simp [e]

section
variable {H : Type} {enc : TypeId × Value → H} {W : World}

theorem weightsAll_mem {P : Program} {e : TypeId} {d : DataW H} : ∀ {l : List (DataW H)}, d ∈ l → ∀ n ∈ d.weights P e, n ∈ DataW.weightsAll P e l := by
  intro l
  induction l with
  | nil => intro h; cases h
  | cons x r ih =>
    intro hd n hn
    simp only [DataW.weightsAll, List.mem_append]
    rcases List.mem_cons.1 hd with rfl | h
    · exact Or.inl hn
    · exact Or.inr (ih h n hn)

/-- a text inside a slice of texts is within the form's reach -/
theorem sized_text {P : Program} {ts : List TypeId} {ds : List (DataW H)} (h : (DataW.weightsEach P ts ds).all (· ≤ reachBytes) = true) {j : Nat} {t e : TypeId} {elems spare : List (DataW H)} {bytes : List UInt8}
    (ht : ts[j]? = some t) (hd : ds[j]? = some (.slice elems spare)) (hu : P.underlying t = some (.slice e)) (hx : DataW.lit (.string bytes) ∈ elems) : bytes.length ≤ reachBytes := by
  refine of_decide_eq_true (List.all_eq_true.1 h _ (DataW.weights_mem_each ht hd _ ?_))
  simp only [DataW.weights, hu, List.mem_cons, List.mem_append]
  exact Or.inr (Or.inl (weightsAll_mem hx _ (by simp [DataW.weights])))

theorem open_texts {ts : List TypeId} {ds : List (DataW H)} (hsz : (DataW.weightsEach Tryd.prog ts ds).all (· ≤ reachBytes) = true) {j : Nat} {d : DataW H} (ht : ts[j]? = some 23) (hd : ds[j]? = some d)
    {a : Option Addr} {len cap : Nat} {p : List MemPlace} (h : DataW.Trod enc Tryd.prog W 0 (fun _ => true) true 23 (.slice a len cap) d p) :
    ∃ xs : List ByteArray, xs.length = len ∧ len ≤ cap ∧ cap * 16 ≤ 140737488351232 ∧ TAt W a xs ∧ ∀ x ∈ xs, x.size ≤ 140737488351232 := by
  obtain ⟨fuel, hf⟩ := h
  have hf' : DataW.trod enc Tryd.prog W 0 (fun _ => true) true fuel 23 [.slice a len cap] = some (d, p) := hf
  have hr : reachBytes = 140737488351232 := rfl
  rcases open_strings Tryd.underlying23 Tryd.underlying9 (by kernel_rfl) hf' with ⟨hc, _⟩ | ⟨b, l, c, ss, hc, _, hl, _, hz, hx, hcell, _⟩
  · simp at hc
    obtain ⟨rfl, rfl, rfl⟩ := hc
    exact ⟨[], rfl, by omega, by omega, .inl rfl, by simp⟩
  · simp at hc
    obtain ⟨rfl, rfl, rfl⟩ := hc
    have hz' : ss.length = cap := by simpa using hz
    simp only [Prod.mk.injEq] at hx
    obtain ⟨rfl, _⟩ := hx
    have hb := sized_slice hsz ht hd Tryd.underlying23
    have e16 : Tryd.prog.bytesOf 9 = 16 := by kernel_rfl
    rw [e16, hr] at hb
    simp only [strs, List.length_map, List.length_take, List.length_drop] at hb
    refine ⟨ss.take len, by rw [List.length_take]; omega, hl, by omega, ?_, ?_⟩
    · by_cases h0 : len = 0
      · left; subst h0; simp
      · right
        have c0 := hcell 0 (by omega)
        have e0 : b = ⟨b.block, b.off, none⟩ := spot_none (by simpa [Addr.add] using c0)
        refine ⟨b.block, b.off, by rw [← e0], World.block_lt_of_cell? W b (by simpa [Addr.add] using c0), fun i hi => ?_⟩
        rw [List.length_take] at hi
        have := hcell i (by omega)
        rw [e0, add_none] at this
        rw [this]
        have h1 : i < (ss.take len).length := by rw [List.length_take]; omega
        have h2 : i < ss.length := by omega
        rw [nth_eq _ _ h1, List.getElem_take]
        simp [List.getD, h2]
    · intro x hx
      have := sized_text (bytes := x.data.toList) hsz ht hd Tryd.underlying23 (by simp only [strs, List.mem_map]; exact ⟨x, hx, rfl⟩)
      rw [hr] at this
      rw [← ls_size]; exact this
end
end Go.Proofs.YtlpikfebbfcofaaDoor
