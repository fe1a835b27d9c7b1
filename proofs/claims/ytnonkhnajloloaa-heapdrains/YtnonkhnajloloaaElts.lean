/- Rows of pairs, of merges and of texts; a row of pairs as an argument. -/
import Derived.Test.YtnonkhnajloloaaSRow
import Derived.Deep.SlicePairs
namespace Go.Proofs.Ytnonkhnajloloaa
open Go.ChangeShapes Go.WideShapes Go.RowKit

/-- Pairs of an argument. -/
def FitsP (L : List (Int × Int)) : Prop := ∀ p ∈ L, (-9223372036854775808 ≤ p.1 ∧ p.1 ≤ 9223372036854775807) ∧ (-9223372036854775808 ≤ p.2 ∧ p.2 ≤ 9223372036854775807)
end Go.Proofs.Ytnonkhnajloloaa
