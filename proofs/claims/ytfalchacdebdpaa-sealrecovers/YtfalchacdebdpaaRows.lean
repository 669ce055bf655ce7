/-
  No cell of these rows narrows 'for every input' (looked for: loops, veiled, ifaces, maps, wideKeys, modest, calm, conditions, laid).
  DERIVED. THE GIVEN ROWS OF THIS SEAT. 5 by the template 'for every input the law returns true; each argument reads behind the call as it read before'; 0 by the template 'total and deterministic' (their statements: YtfalchacdebdpaaTotals.lean).
  GIVEN WITH THE SEED: the statements are not yours to turn. If you find one false, say at which input.
  Laid BY PROGRAM, IN A SANDBOX (cutbox-rows.mjs): the forced cells as the released guide's own fill.sh prints them over the translation 4a13f71982e669c7… (all of the seat's roots in one cut). By AI agents, Wed Nov 11 2026. No macro, syntax, notation, axiom, sorry.
-/
import Derived.Test.YtfalchacdebdpaaChecked
import GoSem.Claim
import GoSem.ClaimJoined
import GoSem.ClaimMapViews
import Derived.JoinedTies
import Derived.KernelRfl
namespace Go.Proofs.Ytfalchacdebdpaa
/- THE CELL 'sum', in the pinned program and in every row, IS THE sha256 OF THE DUMP (.gsa) THAT YtfalchacdebdpaaProg.lean LOADS. Nothing in Lean hashes anything: it is a label: what it is worth is what the hold of that sum in a sandbox is worth. -/
noncomputable def Try.pinned : Pinned := { name := "ytfalchacdebdpaa", sum := "4a13f71982e669c7a2a5b75f87bc925290cbc4ce2d33e227266908f6d8248f30", checked := Try.checked }
namespace Rows
def none {H : Type} : Left H := { results := [], args := [] }

/-- 'escritoirelaw07.SealSteps': WHATEVER THE INPUT: true; the input reads as it did. -/
def sealStepsSpec : ChangeSpec := { name := "sealSteps", fn := fun _ => fun
  | [d1, d2, d3] => { results := [.lit (.bool true)], args := [d1, d2, d3] }
  | _ => none }
def sealStepsRow : OpenClaim := { program := "ytfalchacdebdpaa", sum := "4a13f71982e669c7a2a5b75f87bc925290cbc4ce2d33e227266908f6d8248f30", func := "escritoire/escritoirelaw07.SealSteps", spec := "sealSteps", unfollowed := true, recurses := true, apart := false }
def SealStepsSaid : Prop := sealStepsRow.holds Try.pinned (OpenSpec.ofChange sealStepsSpec)

/-- ITS FALSE NEIGHBOUR: 'it returns false'. Refute it at one input. -/
def sealStepsWrong : ChangeSpec := { name := "sealSteps", fn := fun _ => fun
  | [d1, d2, d3] => { results := [.lit (.bool false)], args := [d1, d2, d3] }
  | _ => none }
def SealStepsWrongFalsely : Prop := sealStepsRow.holds Try.pinned (OpenSpec.ofChange sealStepsWrong)

/-- 'escritoirelaw07.SealRecovers': WHATEVER THE INPUT: true; the input reads as it did. -/
def sealRecoversSpec : ChangeSpec := { name := "sealRecovers", fn := fun _ => fun
  | [d1, d2, d3] => { results := [.lit (.bool true)], args := [d1, d2, d3] }
  | _ => none }
def sealRecoversRow : OpenClaim := { program := "ytfalchacdebdpaa", sum := "4a13f71982e669c7a2a5b75f87bc925290cbc4ce2d33e227266908f6d8248f30", func := "escritoire/escritoirelaw07.SealRecovers", spec := "sealRecovers", unfollowed := true, recurses := true, apart := false }
def SealRecoversSaid : Prop := sealRecoversRow.holds Try.pinned (OpenSpec.ofChange sealRecoversSpec)

/-- ITS FALSE NEIGHBOUR: 'it returns false'. Refute it at one input. -/
def sealRecoversWrong : ChangeSpec := { name := "sealRecovers", fn := fun _ => fun
  | [d1, d2, d3] => { results := [.lit (.bool false)], args := [d1, d2, d3] }
  | _ => none }
def SealRecoversWrongFalsely : Prop := sealRecoversRow.holds Try.pinned (OpenSpec.ofChange sealRecoversWrong)

/-- 'escritoirelaw07.SealCrash': WHATEVER THE INPUT: true; the input reads as it did. -/
def sealCrashSpec : ChangeSpec := { name := "sealCrash", fn := fun _ => fun
  | [d1, d2, d3] => { results := [.lit (.bool true)], args := [d1, d2, d3] }
  | _ => none }
def sealCrashRow : OpenClaim := { program := "ytfalchacdebdpaa", sum := "4a13f71982e669c7a2a5b75f87bc925290cbc4ce2d33e227266908f6d8248f30", func := "escritoire/escritoirelaw07.SealCrash", spec := "sealCrash", unfollowed := true, recurses := true, apart := false }
def SealCrashSaid : Prop := sealCrashRow.holds Try.pinned (OpenSpec.ofChange sealCrashSpec)

/-- ITS FALSE NEIGHBOUR: 'it returns false'. Refute it at one input. -/
def sealCrashWrong : ChangeSpec := { name := "sealCrash", fn := fun _ => fun
  | [d1, d2, d3] => { results := [.lit (.bool false)], args := [d1, d2, d3] }
  | _ => none }
def SealCrashWrongFalsely : Prop := sealCrashRow.holds Try.pinned (OpenSpec.ofChange sealCrashWrong)

/-- 'escritoirelaw07.SealTwice': WHATEVER THE INPUT: true; the input reads as it did. -/
def sealTwiceSpec : ChangeSpec := { name := "sealTwice", fn := fun _ => fun
  | [d1, d2] => { results := [.lit (.bool true)], args := [d1, d2] }
  | _ => none }
def sealTwiceRow : OpenClaim := { program := "ytfalchacdebdpaa", sum := "4a13f71982e669c7a2a5b75f87bc925290cbc4ce2d33e227266908f6d8248f30", func := "escritoire/escritoirelaw07.SealTwice", spec := "sealTwice", unfollowed := true, recurses := true, apart := false }
def SealTwiceSaid : Prop := sealTwiceRow.holds Try.pinned (OpenSpec.ofChange sealTwiceSpec)

/-- ITS FALSE NEIGHBOUR: 'it returns false'. Refute it at one input. -/
def sealTwiceWrong : ChangeSpec := { name := "sealTwice", fn := fun _ => fun
  | [d1, d2] => { results := [.lit (.bool false)], args := [d1, d2] }
  | _ => none }
def SealTwiceWrongFalsely : Prop := sealTwiceRow.holds Try.pinned (OpenSpec.ofChange sealTwiceWrong)

/-- 'escritoirelaw07.SealTwo': WHATEVER THE INPUT: true; the input reads as it did. -/
def sealTwoSpec : ChangeSpec := { name := "sealTwo", fn := fun _ => fun
  | [d1, d2, d3] => { results := [.lit (.bool true)], args := [d1, d2, d3] }
  | _ => none }
def sealTwoRow : OpenClaim := { program := "ytfalchacdebdpaa", sum := "4a13f71982e669c7a2a5b75f87bc925290cbc4ce2d33e227266908f6d8248f30", func := "escritoire/escritoirelaw07.SealTwo", spec := "sealTwo", unfollowed := true, recurses := true, apart := false }
def SealTwoSaid : Prop := sealTwoRow.holds Try.pinned (OpenSpec.ofChange sealTwoSpec)

/-- ITS FALSE NEIGHBOUR: 'it returns false'. Refute it at one input. -/
def sealTwoWrong : ChangeSpec := { name := "sealTwo", fn := fun _ => fun
  | [d1, d2, d3] => { results := [.lit (.bool false)], args := [d1, d2, d3] }
  | _ => none }
def SealTwoWrongFalsely : Prop := sealTwoRow.holds Try.pinned (OpenSpec.ofChange sealTwoWrong)

/- THE SECOND FORM. 'bulk': how many values and letters a reading holds, each counted each time it is reached (what is shared counts as often as it is met; a slice's spare places count too). A statement '..UptoSaid' is the law's where the arguments, and the package variables that the reading takes, are together of bulk at most 1048576: NARROWER than '..Said'. Prove '..Said' where nothing that the law and all that it calls make is longer than what came in: it says more and counts as full. Else prove '..UptoSaid'. A law counts once. -/
mutual
def uptoBulk {H : Type} : DataW H → Nat
  | .lit (.string bytes) => bytes.length + 1
  | .lit _ => 1
  | .nil => 1
  | .ptr d => uptoBulk d + 1
  | .slice elems spare => uptoBulkAll elems + uptoBulkAll spare + 1
  | .agg parts => uptoBulkAll parts + 1
  | .iface _ d => uptoBulk d + 1
  | .map entries => uptoBulkEntries entries + 1
  | .held _ => 1
def uptoBulkAll {H : Type} : List (DataW H) → Nat
  | [] => 0
  | d :: r => uptoBulk d + uptoBulkAll r
def uptoBulkEntries {H : Type} : List (Lit × DataW H) → Nat
  | [] => 0
  | x :: r => uptoBulkEntry x + uptoBulkEntries r
def uptoBulkEntry {H : Type} : Lit × DataW H → Nat
  | (.string bytes, d) => bytes.length + uptoBulk d + 1
  | (_, d) => uptoBulk d + 1
 end
def uptoSmall : (H : Type) → List (DataW H) → Bool := fun _ ds => decide (uptoBulkAll ds ≤ 1048576)
def OpenSpec.upto (s : _root_.Go.ChangeSpec) : _root_.Go.OpenSpec := { _root_.Go.OpenSpec.ofChange s with cond := some uptoSmall }

/-- 'escritoirelaw07.SealSteps', WHERE WHAT IT READS IS OF BULK AT MOST 1048576: true; the input reads as it did. -/
def sealStepsUptoRow : OpenClaim := { program := "ytfalchacdebdpaa", sum := "4a13f71982e669c7a2a5b75f87bc925290cbc4ce2d33e227266908f6d8248f30", func := "escritoire/escritoirelaw07.SealSteps", spec := "sealSteps", unfollowed := true, recurses := true, apart := false, narrowed := true }
def SealStepsUptoSaid : Prop := sealStepsUptoRow.holds Try.pinned (OpenSpec.upto sealStepsSpec)

/-- 'escritoirelaw07.SealRecovers', WHERE WHAT IT READS IS OF BULK AT MOST 1048576: true; the input reads as it did. -/
def sealRecoversUptoRow : OpenClaim := { program := "ytfalchacdebdpaa", sum := "4a13f71982e669c7a2a5b75f87bc925290cbc4ce2d33e227266908f6d8248f30", func := "escritoire/escritoirelaw07.SealRecovers", spec := "sealRecovers", unfollowed := true, recurses := true, apart := false, narrowed := true }
def SealRecoversUptoSaid : Prop := sealRecoversUptoRow.holds Try.pinned (OpenSpec.upto sealRecoversSpec)

/-- 'escritoirelaw07.SealCrash', WHERE WHAT IT READS IS OF BULK AT MOST 1048576: true; the input reads as it did. -/
def sealCrashUptoRow : OpenClaim := { program := "ytfalchacdebdpaa", sum := "4a13f71982e669c7a2a5b75f87bc925290cbc4ce2d33e227266908f6d8248f30", func := "escritoire/escritoirelaw07.SealCrash", spec := "sealCrash", unfollowed := true, recurses := true, apart := false, narrowed := true }
def SealCrashUptoSaid : Prop := sealCrashUptoRow.holds Try.pinned (OpenSpec.upto sealCrashSpec)

/-- 'escritoirelaw07.SealTwice', WHERE WHAT IT READS IS OF BULK AT MOST 1048576: true; the input reads as it did. -/
def sealTwiceUptoRow : OpenClaim := { program := "ytfalchacdebdpaa", sum := "4a13f71982e669c7a2a5b75f87bc925290cbc4ce2d33e227266908f6d8248f30", func := "escritoire/escritoirelaw07.SealTwice", spec := "sealTwice", unfollowed := true, recurses := true, apart := false, narrowed := true }
def SealTwiceUptoSaid : Prop := sealTwiceUptoRow.holds Try.pinned (OpenSpec.upto sealTwiceSpec)

/-- 'escritoirelaw07.SealTwo', WHERE WHAT IT READS IS OF BULK AT MOST 1048576: true; the input reads as it did. -/
def sealTwoUptoRow : OpenClaim := { program := "ytfalchacdebdpaa", sum := "4a13f71982e669c7a2a5b75f87bc925290cbc4ce2d33e227266908f6d8248f30", func := "escritoire/escritoirelaw07.SealTwo", spec := "sealTwo", unfollowed := true, recurses := true, apart := false, narrowed := true }
def SealTwoUptoSaid : Prop := sealTwoUptoRow.holds Try.pinned (OpenSpec.upto sealTwoSpec)

end Rows
end Go.Proofs.Ytfalchacdebdpaa
