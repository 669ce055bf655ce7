/-
  No cell of these rows narrows 'for every input' (looked for: loops, veiled, ifaces, maps, wideKeys, modest, calm, conditions, laid).
  DERIVED. THE GIVEN ROWS OF THIS SEAT. 4 by the template 'for every input the law returns true; each argument reads behind the call as it read before'; 0 by the template 'total and deterministic' (their statements: YtdjnkibnnjobpaaGreatTotals.lean).
  GIVEN WITH THE SEED: the statements are not yours to turn. If you find one false, say at which input.
  Laid BY PROGRAM, IN A SANDBOX (cutbox-rows.mjs): the forced cells as the released guide's own fill.sh prints them over the translation 4cafdeb52d722bc1… (all of the seat's roots in one cut). By AI agents, Wed Nov 11 2026. No macro, syntax, notation, axiom, sorry.
-/
import Derived.Test.YtdjnkibnnjobpaaGreatChecked
import GoSem.Claim
import GoSem.ClaimJoined
import GoSem.ClaimMapViews
import Derived.JoinedTies
import Derived.KernelRfl
namespace Go.Proofs.YtdjnkibnnjobpaaGreat
/- THE CELL 'sum', in the pinned program and in every row, IS THE sha256 OF THE DUMP (.gsa) THAT YtdjnkibnnjobpaaGreatProg.lean LOADS. Nothing in Lean hashes anything: it is a label: what it is worth is what the hold of that sum in a sandbox is worth. -/
noncomputable def Tryz.pinned : Pinned := { name := "ytdjnkibnnjobpaagreat", sum := "4cafdeb52d722bc1f179aebe66f5869e7f8f5dac1c538bbc1601af0e1f74cf89", checked := Tryz.checked }
namespace Rows
def none {H : Type} : Left H := { results := [], args := [] }

/-- 'escritoirelaw10.BodyPlays': WHATEVER THE INPUT: true; the input reads as it did. -/
def bodyPlaysSpec : ChangeSpec := { name := "bodyPlays", fn := fun _ => fun
  | [d] => { results := [.lit (.bool true)], args := [d] }
  | _ => none }
def bodyPlaysRow : OpenClaim := { program := "ytdjnkibnnjobpaagreat", sum := "4cafdeb52d722bc1f179aebe66f5869e7f8f5dac1c538bbc1601af0e1f74cf89", func := "escritoire/escritoirelaw10.BodyPlays", spec := "bodyPlays", inPlace := ["internal/abi.NoEscape", "internal/bytealg.MakeNoZero"], unfollowed := true, recurses := true, apart := false }
def BodyPlaysSaid : Prop := bodyPlaysRow.holds Tryz.pinned (OpenSpec.ofChange bodyPlaysSpec)

/-- ITS FALSE NEIGHBOUR: 'it returns false'. Refute it at one input. -/
def bodyPlaysWrong : ChangeSpec := { name := "bodyPlays", fn := fun _ => fun
  | [d] => { results := [.lit (.bool false)], args := [d] }
  | _ => none }
def BodyPlaysWrongFalsely : Prop := bodyPlaysRow.holds Tryz.pinned (OpenSpec.ofChange bodyPlaysWrong)

/-- 'escritoirelaw10.BodyApart': WHATEVER THE INPUT: true; the input reads as it did. -/
def bodyApartSpec : ChangeSpec := { name := "bodyApart", fn := fun _ => fun
  | [d1, d2] => { results := [.lit (.bool true)], args := [d1, d2] }
  | _ => none }
def bodyApartRow : OpenClaim := { program := "ytdjnkibnnjobpaagreat", sum := "4cafdeb52d722bc1f179aebe66f5869e7f8f5dac1c538bbc1601af0e1f74cf89", func := "escritoire/escritoirelaw10.BodyApart", spec := "bodyApart", inPlace := ["internal/abi.NoEscape", "internal/bytealg.MakeNoZero"], unfollowed := true, recurses := true, apart := false }
def BodyApartSaid : Prop := bodyApartRow.holds Tryz.pinned (OpenSpec.ofChange bodyApartSpec)

/-- ITS FALSE NEIGHBOUR: 'it returns false'. Refute it at one input. -/
def bodyApartWrong : ChangeSpec := { name := "bodyApart", fn := fun _ => fun
  | [d1, d2] => { results := [.lit (.bool false)], args := [d1, d2] }
  | _ => none }
def BodyApartWrongFalsely : Prop := bodyApartRow.holds Tryz.pinned (OpenSpec.ofChange bodyApartWrong)

/-- 'escritoirelaw10.BodyNone': WHATEVER THE INPUT: true; the input reads as it did. -/
def bodyNoneSpec : ChangeSpec := { name := "bodyNone", fn := fun _ => fun
  | [d1, d2] => { results := [.lit (.bool true)], args := [d1, d2] }
  | _ => none }
def bodyNoneRow : OpenClaim := { program := "ytdjnkibnnjobpaagreat", sum := "4cafdeb52d722bc1f179aebe66f5869e7f8f5dac1c538bbc1601af0e1f74cf89", func := "escritoire/escritoirelaw10.BodyNone", spec := "bodyNone", inPlace := ["internal/abi.NoEscape", "internal/bytealg.MakeNoZero"], unfollowed := true, recurses := true, apart := false }
def BodyNoneSaid : Prop := bodyNoneRow.holds Tryz.pinned (OpenSpec.ofChange bodyNoneSpec)

/-- ITS FALSE NEIGHBOUR: 'it returns false'. Refute it at one input. -/
def bodyNoneWrong : ChangeSpec := { name := "bodyNone", fn := fun _ => fun
  | [d1, d2] => { results := [.lit (.bool false)], args := [d1, d2] }
  | _ => none }
def BodyNoneWrongFalsely : Prop := bodyNoneRow.holds Tryz.pinned (OpenSpec.ofChange bodyNoneWrong)

/-- 'escritoirelaw10.BodyTouches': WHATEVER THE INPUT: true; the input reads as it did. -/
def bodyTouchesSpec : ChangeSpec := { name := "bodyTouches", fn := fun _ => fun
  | [d1, d2] => { results := [.lit (.bool true)], args := [d1, d2] }
  | _ => none }
def bodyTouchesRow : OpenClaim := { program := "ytdjnkibnnjobpaagreat", sum := "4cafdeb52d722bc1f179aebe66f5869e7f8f5dac1c538bbc1601af0e1f74cf89", func := "escritoire/escritoirelaw10.BodyTouches", spec := "bodyTouches", inPlace := ["internal/abi.NoEscape", "internal/bytealg.MakeNoZero"], unfollowed := true, recurses := true, apart := false }
def BodyTouchesSaid : Prop := bodyTouchesRow.holds Tryz.pinned (OpenSpec.ofChange bodyTouchesSpec)

/-- ITS FALSE NEIGHBOUR: 'it returns false'. Refute it at one input. -/
def bodyTouchesWrong : ChangeSpec := { name := "bodyTouches", fn := fun _ => fun
  | [d1, d2] => { results := [.lit (.bool false)], args := [d1, d2] }
  | _ => none }
def BodyTouchesWrongFalsely : Prop := bodyTouchesRow.holds Tryz.pinned (OpenSpec.ofChange bodyTouchesWrong)

/- THE SECOND FORM. 'bulk': how many values and letters a reading holds, each counted each time it is reached (what is shared counts as often as it is met; a slice's spare places count too). A statement '..UptoSaid' is the law's where the arguments, and the package variables that the reading takes, are together of bulk at most 1048576: NARROWER than '..Said'. Prove '..Said' where nothing that the law and all that it calls make is longer than what came in: it says more and counts as full. Else prove '..UptoSaid'. A law counts once. -/
mutual
def uptoBulk {H : Type} : DataW H → Nat
  | .lit (.string bytes) => bytes.length + 1
  | .lit _ => 1
  | .nil => 1
  | .ptr d => uptoBulk d + 1
  | .slice elems spare => uptoBulkAll elems + uptoBulkAll spare + 1
  | .agg parts => uptoBulkAll parts + 1
  | .iface _ d => uptoBulk d + 1
  | .map entries => uptoBulkEntries entries + 1
  | .held _ => 1
def uptoBulkAll {H : Type} : List (DataW H) → Nat
  | [] => 0
  | d :: r => uptoBulk d + uptoBulkAll r
def uptoBulkEntries {H : Type} : List (Lit × DataW H) → Nat
  | [] => 0
  | x :: r => uptoBulkEntry x + uptoBulkEntries r
def uptoBulkEntry {H : Type} : Lit × DataW H → Nat
  | (.string bytes, d) => bytes.length + uptoBulk d + 1
  | (_, d) => uptoBulk d + 1
 end
def uptoSmall : (H : Type) → List (DataW H) → Bool := fun _ ds => decide (uptoBulkAll ds ≤ 1048576)
def OpenSpec.upto (s : _root_.Go.ChangeSpec) : _root_.Go.OpenSpec := { _root_.Go.OpenSpec.ofChange s with cond := some uptoSmall }

/-- 'escritoirelaw10.BodyPlays', WHERE WHAT IT READS IS OF BULK AT MOST 1048576: true; the input reads as it did. -/
def bodyPlaysUptoRow : OpenClaim := { program := "ytdjnkibnnjobpaagreat", sum := "4cafdeb52d722bc1f179aebe66f5869e7f8f5dac1c538bbc1601af0e1f74cf89", func := "escritoire/escritoirelaw10.BodyPlays", spec := "bodyPlays", inPlace := ["internal/abi.NoEscape", "internal/bytealg.MakeNoZero"], unfollowed := true, recurses := true, apart := false, narrowed := true }
def BodyPlaysUptoSaid : Prop := bodyPlaysUptoRow.holds Tryz.pinned (OpenSpec.upto bodyPlaysSpec)

/-- 'escritoirelaw10.BodyApart', WHERE WHAT IT READS IS OF BULK AT MOST 1048576: true; the input reads as it did. -/
def bodyApartUptoRow : OpenClaim := { program := "ytdjnkibnnjobpaagreat", sum := "4cafdeb52d722bc1f179aebe66f5869e7f8f5dac1c538bbc1601af0e1f74cf89", func := "escritoire/escritoirelaw10.BodyApart", spec := "bodyApart", inPlace := ["internal/abi.NoEscape", "internal/bytealg.MakeNoZero"], unfollowed := true, recurses := true, apart := false, narrowed := true }
def BodyApartUptoSaid : Prop := bodyApartUptoRow.holds Tryz.pinned (OpenSpec.upto bodyApartSpec)

/-- 'escritoirelaw10.BodyNone', WHERE WHAT IT READS IS OF BULK AT MOST 1048576: true; the input reads as it did. -/
def bodyNoneUptoRow : OpenClaim := { program := "ytdjnkibnnjobpaagreat", sum := "4cafdeb52d722bc1f179aebe66f5869e7f8f5dac1c538bbc1601af0e1f74cf89", func := "escritoire/escritoirelaw10.BodyNone", spec := "bodyNone", inPlace := ["internal/abi.NoEscape", "internal/bytealg.MakeNoZero"], unfollowed := true, recurses := true, apart := false, narrowed := true }
def BodyNoneUptoSaid : Prop := bodyNoneUptoRow.holds Tryz.pinned (OpenSpec.upto bodyNoneSpec)

/-- 'escritoirelaw10.BodyTouches', WHERE WHAT IT READS IS OF BULK AT MOST 1048576: true; the input reads as it did. -/
def bodyTouchesUptoRow : OpenClaim := { program := "ytdjnkibnnjobpaagreat", sum := "4cafdeb52d722bc1f179aebe66f5869e7f8f5dac1c538bbc1601af0e1f74cf89", func := "escritoire/escritoirelaw10.BodyTouches", spec := "bodyTouches", inPlace := ["internal/abi.NoEscape", "internal/bytealg.MakeNoZero"], unfollowed := true, recurses := true, apart := false, narrowed := true }
def BodyTouchesUptoSaid : Prop := bodyTouchesUptoRow.holds Tryz.pinned (OpenSpec.upto bodyTouchesSpec)

end Rows
end Go.Proofs.YtdjnkibnnjobpaaGreat
