/- The three laws, as shell.py's closing texts call them, over what is asked of the program. -/
import Derived.Test.YtbacbgpemaldbaaNvO
import Derived.Test.YtbacbgpemaldbaaNvM
namespace Go.Proofs.Ytbacbgpemaldbaa
open Go.ChangeShapes Go.WideShapes Go.RowKit

set_option maxRecDepth 100000 in
theorem naiveLearns_shell (hP : NLearns) (v : Value) (b d : Int) (W : World) (L : Bag) (hw : wordsAt W v L) (hl : L.length ≤ maxLen) (hf : Fits L) (_ : nilNone v) (_ : ∀ a n c, v = .slice a n c → n ≤ c) (wb : (Lit.int .i64 b).wf = true) (wd : (Lit.int .i64 d).wf = true) :
    Calls Try.prog 3 #[v, .int .i64 b, .int .i64 d] W fun e w' => e = .returned (.bool true) ∧ Below W.heap.size W w' :=
  naiveLearns_over hP v b d W L hw (by unfold maxLen at hl; omega) hf (bounds_i64 wb) (bounds_i64 wd)
set_option maxRecDepth 100000 in
theorem naiveGrows_shell (hP : NLearns) (v : Value) (b d m : Int) (W : World) (L : Bag) (hw : wordsAt W v L) (hl : L.length ≤ maxLen) (hf : Fits L) (_ : nilNone v) (_ : ∀ a n c, v = .slice a n c → n ≤ c) (wb : (Lit.int .u8 b).wf = true) (wd : (Lit.int .u8 d).wf = true) (wm : (Lit.int .u8 m).wf = true) :
    Calls Try.prog 5 #[v, .int .u8 b, .int .u8 d, .int .u8 m] W fun e w' => e = .returned (.bool true) ∧ Below W.heap.size W w' :=
  naiveGrows_over hP v b d m W L hw (by unfold maxLen at hl; omega) hf (bounds_u8 wb).1 (bounds_u8 wb).2 (bounds_u8 wd).1 (bounds_u8 wd).2 (bounds_u8 wm).1 (bounds_u8 wm).2
set_option maxRecDepth 100000 in
theorem naiveBest_shell (hP : NLearns) (hB : NBests) (hJ : NJoins) (v0 v1 : Value) (a b : ByteArray) (W : World) (L0 : List (List ByteArray)) (hw0 : rowsT W v0 L0) (hl0 : L0.length ≤ maxLen) (hf0 : ∀ X ∈ L0, X.length ≤ maxLen ∧ ∀ t ∈ X, t.size ≤ maxLen)
    (L1 : List Int) (hw1 : eltsAt intE W v1 L1) (hl1 : L1.length ≤ maxLen) (hf1 : ∀ c ∈ L1, FitsB c) (hn1 : nilNone v1) (hc1 : ∀ a n c, v1 = .slice a n c → n ≤ c) (ha : a.size ≤ maxLen) (hb : b.size ≤ maxLen) :
    Calls Try.prog 4 #[v0, v1, .agg #[.string a, .string b]] W fun e w' => e = .returned (.bool true) ∧ Below W.heap.size W w' := by
  have e : maxLen ≤ 9223372036854775807 := by decide
  exact naiveBest_over hP hB hJ v0 v1 a b W L0 L1 hw0 hw1 hn1 hc1 (Nat.le_trans hl0 e) (Nat.le_trans hl1 e) hf1 (fun X hX => Nat.le_trans (hf0 X hX).1 e) (fun X hX t ht => Nat.le_trans ((hf0 X hX).2 t ht) e) (Nat.le_trans ha e) (Nat.le_trans hb e)
end Go.Proofs.Ytbacbgpemaldbaa
