/- NaiveBest, walked. -/
import Derived.Test.YtbacbgpemaldbaaNpS
import Derived.Test.YtbacbgpemaldbaaNvS
namespace Go.Proofs.Ytbacbgpemaldbaa
open Go.ChangeShapes Go.WideShapes Go.RowKit

set_option maxRecDepth 100000 in
theorem naiveBest_walk (v0 v1 : Value) (a b : ByteArray) (W : World) (L0 : List (List ByteArray)) (hw0 : rowsT W v0 L0) (hl0 : L0.length ≤ maxLen) (hf0 : ∀ X ∈ L0, X.length ≤ maxLen ∧ ∀ t ∈ X, t.size ≤ maxLen)
    (L1 : List Int) (hw1 : eltsAt intE W v1 L1) (hl1 : L1.length ≤ maxLen) (hf1 : ∀ c ∈ L1, FitsB c) (hn1 : nilNone v1) (hc1 : ∀ a n c, v1 = .slice a n c → n ≤ c) (ha : a.size ≤ maxLen) (hb : b.size ≤ maxLen) :
    Calls Try.prog 4 #[v0, v1, .agg #[.string a, .string b]] W fun e w' => e = .returned (.bool true) ∧ Below W.heap.size W w' :=
  naiveBest_shell nLearns nBests nJoins v0 v1 a b W L0 hw0 hl0 hf0 L1 hw1 hl1 hf1 hn1 hc1 ha hb
end Go.Proofs.Ytbacbgpemaldbaa
