/- NaiveLearns, walked. -/
import Derived.Test.YtbacbgpemaldbaaNpN
import Derived.Test.YtbacbgpemaldbaaNvS
namespace Go.Proofs.Ytbacbgpemaldbaa
open Go.ChangeShapes Go.WideShapes Go.RowKit

set_option maxRecDepth 100000 in
theorem naiveLearns_walk (v : Value) (b d : Int) (W : World) (L : Bag) (hw : wordsAt W v L) (hl : L.length ≤ maxLen) (hf : Fits L) (hn : nilNone v) (hc : ∀ a n c, v = .slice a n c → n ≤ c) (wb : (Lit.int .i64 b).wf = true) (wd : (Lit.int .i64 d).wf = true) :
    Calls Try.prog 3 #[v, .int .i64 b, .int .i64 d] W fun e w' => e = .returned (.bool true) ∧ Below W.heap.size W w' :=
  naiveLearns_shell nLearns v b d W L hw hl hf hn hc wb wd
end Go.Proofs.Ytbacbgpemaldbaa
