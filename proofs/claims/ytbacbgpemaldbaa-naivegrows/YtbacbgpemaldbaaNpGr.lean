/- NaiveGrows, walked. -/
import Derived.Test.YtbacbgpemaldbaaNpN
import Derived.Test.YtbacbgpemaldbaaNvS
namespace Go.Proofs.Ytbacbgpemaldbaa
open Go.ChangeShapes Go.WideShapes Go.RowKit

set_option maxRecDepth 100000 in
theorem naiveGrows_walk (v : Value) (b d m : Int) (W : World) (L : Bag) (hw : wordsAt W v L) (hl : L.length ≤ maxLen) (hf : Fits L) (hn : nilNone v) (hc : ∀ a n c, v = .slice a n c → n ≤ c) (wb : (Lit.int .u8 b).wf = true) (wd : (Lit.int .u8 d).wf = true) (wm : (Lit.int .u8 m).wf = true) :
    Calls Try.prog 5 #[v, .int .u8 b, .int .u8 d, .int .u8 m] W fun e w' => e = .returned (.bool true) ∧ Below W.heap.size W w' :=
  naiveGrows_shell nLearns v b d m W L hw hl hf hn hc wb wd wm
end Go.Proofs.Ytbacbgpemaldbaa
