/- Contracts of fields of words (put, get of the package cards over those of the package words): for a field above all set bits putting is a sum, getting a quotient's remainder; and of lay, a card's words. -/
import Derived.Test.YtdjnkibnnjobpaaCdBase
namespace Go.Proofs.Ytdjnkibnnjobpaa.Cd
open Go.RowKit

end Go.Proofs.Ytdjnkibnnjobpaa.Cd
