/- Contract of unlay: what the fields of eight words say. -/
import Derived.Test.YtdjnkibnnjobpaaCdWords
import Derived.Test.YtdjnkibnnjobpaaCdRight
import Derived.Deep.RegionWith
namespace Go.Proofs.Ytdjnkibnnjobpaa.Cd
open Go.RowKit

/-- What the fields of the first, third and fourth word say. -/
def Says (a0 a2 a3 k l s d0 d1 d2 d3 d4 m : Int) : Prop :=
  k = a0 % 256 ∧ l = a0 / 256 % 65536 ∧ s = a0 / 16777216 % 4294967296 ∧ d0 = a2 % 65536 - 1 ∧ d1 = a2 / 65536 % 65536 - 1 ∧ d2 = a2 / 4294967296 % 65536 - 1 ∧ d3 = a2 / 281474976710656 % 65536 - 1 ∧ d4 = a3 % 65536 - 1 ∧ m = a3 / 65536 % 65536 - 1
end Go.Proofs.Ytdjnkibnnjobpaa.Cd
