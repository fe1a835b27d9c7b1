/- The four laws of train, walked. -/
import Derived.Test.YtnmacalbbmeedaaGreatQ48
import Derived.Test.YtnmacalbbmeedaaGreatQ52

namespace Go.Proofs.YtnmacalbbmeedaaGreat
open Go.ChangeShapes Go.WideShapes Go.RowKit

set_option maxRecDepth 100000 in
theorem tLearns : TLearns := fun x L b d lim w hx hL hf hby _ _ _ => tlearn_any x L b d lim w hx hL hf hby
set_option maxRecDepth 100000 in
theorem tNils : TNils := ⟨tlstep_nil, tlstats_nil, tlwords_nil, tlmerges_nil⟩
set_option maxRecDepth 100000 in
theorem trainLearns_walk (v : Value) (b d l : Int) (W : World) (L : Bag) (hw : wordsAt W v L) (hl : L.length ≤ maxLen) (hf : Fits L) (hn : nilNone v) (hc : ∀ a n c, v = .slice a n c → n ≤ c) (wb : FitsB b) (wd : FitsB d) (wl : FitsB l) :
    Calls Tryz.prog 3 #[v, .agg #[.int .i64 b, .int .i64 d, .int .i64 l]] W fun e w' => e = .returned (.bool true) ∧ Below W.heap.size W w' :=
  trainLearns_shell tLearns v b d l W L hw hl hf hn hc wb wd wl
set_option maxRecDepth 100000 in
theorem trainSteps_walk (v : Value) (b d l s : Int) (W : World) (L : Bag) (hw : wordsAt W v L) (hl : L.length ≤ maxLen) (hf : Fits L) (hn : nilNone v) (hc : ∀ a n c, v = .slice a n c → n ≤ c) (wb : FitsB b) (wd : FitsB d) (wl : FitsB l) (ws : (Lit.int .u8 s).wf = true) :
    Calls Tryz.prog 4 #[v, .agg #[.int .i64 b, .int .i64 d, .int .i64 l], .int .u8 s] W fun e w' => e = .returned (.bool true) ∧ Below W.heap.size W w' :=
  trainSteps_shell tLearns tNews v b d l s W L hw hl hf hn hc wb wd wl ws
set_option maxRecDepth 100000 in
theorem trainBounds_walk (v : Value) (b d l : Int) (W : World) (L : Bag) (hw : wordsAt W v L) (hl : L.length ≤ maxLen) (hf : Fits L) (hn : nilNone v) (hc : ∀ a n c, v = .slice a n c → n ≤ c) (wb : FitsB b) (wd : FitsB d) (wl : FitsB l) :
    Calls Tryz.prog 5 #[v, .agg #[.int .i64 b, .int .i64 d, .int .i64 l]] W fun e w' => e = .returned (.bool true) ∧ Below W.heap.size W w' :=
  trainBounds_shell tLearns tNews tNils v b d l W L hw hl hf hn hc wb wd wl
set_option maxRecDepth 100000 in
theorem trainBudget_walk (v : Value) (b d m : Int) (W : World) (L : Bag) (hw : wordsAt W v L) (hl : L.length ≤ maxLen) (hf : Fits L) (hn : nilNone v) (hc : ∀ a n c, v = .slice a n c → n ≤ c) (wb : (Lit.int .u8 b).wf = true) (wd : (Lit.int .u8 d).wf = true) (wm : (Lit.int .u8 m).wf = true) :
    Calls Tryz.prog 6 #[v, .int .u8 b, .int .u8 d, .int .u8 m] W fun e w' => e = .returned (.bool true) ∧ Below W.heap.size W w' :=
  trainBudget_shell tLearns v b d m W L hw hl hf hn hc wb wd wm
end Go.Proofs.YtnmacalbbmeedaaGreat
