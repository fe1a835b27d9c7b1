/-
  No cell of these rows narrows 'for every input' (looked for: loops, veiled, ifaces, maps, wideKeys, modest, calm, conditions, laid).
  DERIVED. THE GIVEN ROWS OF THIS SEAT. 4 by the template 'for every input the law returns true; each argument reads behind the call as it read before'; 0 by the template 'total and deterministic' (their statements: YtnmacalbbmeedaaGreatTotals.lean).
  GIVEN WITH THE SEED: the statements are not yours to turn. If you find one false, say at which input.
  Laid BY PROGRAM, IN A SANDBOX (cutbox-rows.mjs): the forced cells as the released guide's own fill.sh prints them over the translation c28eddb08293dcb4… (all of the seat's roots in one cut). By AI agents, Wed Nov 11 2026. No macro, syntax, notation, axiom, sorry.
-/
import Derived.Test.YtnmacalbbmeedaaGreatChecked
import GoSem.Claim
import GoSem.ClaimJoined
import GoSem.ClaimMapViews
import Derived.JoinedTies
import Derived.KernelRfl
namespace Go.Proofs.YtnmacalbbmeedaaGreat
/- THE CELL 'sum', in the pinned program and in every row, IS THE sha256 OF THE DUMP (.gsa) THAT YtnmacalbbmeedaaGreatProg.lean LOADS. Nothing in Lean hashes anything: it is a label: what it is worth is what the hold of that sum in a sandbox is worth. -/
noncomputable def Tryz.pinned : Pinned := { name := "ytnmacalbbmeedaagreat", sum := "c28eddb08293dcb4c00b7ede9f2d244123a42e003caf19e1b17aa8a134d56f85", checked := Tryz.checked }
namespace Rows
def none {H : Type} : Left H := { results := [], args := [] }

/-- 'gluepotlaw17.TrainLearns': WHATEVER THE INPUT: true; the input reads as it did. -/
def trainLearnsSpec : ChangeSpec := { name := "trainLearns", fn := fun _ => fun
  | [d1, d2] => { results := [.lit (.bool true)], args := [d1, d2] }
  | _ => none }
def trainLearnsRow : OpenClaim := { program := "ytnmacalbbmeedaagreat", sum := "c28eddb08293dcb4c00b7ede9f2d244123a42e003caf19e1b17aa8a134d56f85", func := "gluepot/gluepotlaw17.TrainLearns", spec := "trainLearns", inPlace := ["slices.overlaps[int]", "internal/bytealg.abigen_runtime_cmpstring"], unfollowed := true, recurses := true, plainKeys := false, apart := false }
def TrainLearnsSaid : Prop := trainLearnsRow.holds Tryz.pinned (OpenSpec.ofChange trainLearnsSpec)

/-- ITS FALSE NEIGHBOUR: 'it returns false'. Refute it at one input. -/
def trainLearnsWrong : ChangeSpec := { name := "trainLearns", fn := fun _ => fun
  | [d1, d2] => { results := [.lit (.bool false)], args := [d1, d2] }
  | _ => none }
def TrainLearnsWrongFalsely : Prop := trainLearnsRow.holds Tryz.pinned (OpenSpec.ofChange trainLearnsWrong)

/-- 'gluepotlaw17.TrainSteps': WHATEVER THE INPUT: true; the input reads as it did. -/
def trainStepsSpec : ChangeSpec := { name := "trainSteps", fn := fun _ => fun
  | [d1, d2, d3] => { results := [.lit (.bool true)], args := [d1, d2, d3] }
  | _ => none }
def trainStepsRow : OpenClaim := { program := "ytnmacalbbmeedaagreat", sum := "c28eddb08293dcb4c00b7ede9f2d244123a42e003caf19e1b17aa8a134d56f85", func := "gluepot/gluepotlaw17.TrainSteps", spec := "trainSteps", inPlace := ["slices.overlaps[int]", "internal/bytealg.abigen_runtime_cmpstring"], unfollowed := true, recurses := true, plainKeys := false, apart := false }
def TrainStepsSaid : Prop := trainStepsRow.holds Tryz.pinned (OpenSpec.ofChange trainStepsSpec)

/-- ITS FALSE NEIGHBOUR: 'it returns false'. Refute it at one input. -/
def trainStepsWrong : ChangeSpec := { name := "trainSteps", fn := fun _ => fun
  | [d1, d2, d3] => { results := [.lit (.bool false)], args := [d1, d2, d3] }
  | _ => none }
def TrainStepsWrongFalsely : Prop := trainStepsRow.holds Tryz.pinned (OpenSpec.ofChange trainStepsWrong)

/-- 'gluepotlaw17.TrainBounds': WHATEVER THE INPUT: true; the input reads as it did. -/
def trainBoundsSpec : ChangeSpec := { name := "trainBounds", fn := fun _ => fun
  | [d1, d2] => { results := [.lit (.bool true)], args := [d1, d2] }
  | _ => none }
def trainBoundsRow : OpenClaim := { program := "ytnmacalbbmeedaagreat", sum := "c28eddb08293dcb4c00b7ede9f2d244123a42e003caf19e1b17aa8a134d56f85", func := "gluepot/gluepotlaw17.TrainBounds", spec := "trainBounds", inPlace := ["slices.overlaps[int]", "internal/bytealg.abigen_runtime_cmpstring"], unfollowed := true, recurses := true, plainKeys := false, apart := false }
def TrainBoundsSaid : Prop := trainBoundsRow.holds Tryz.pinned (OpenSpec.ofChange trainBoundsSpec)

/-- ITS FALSE NEIGHBOUR: 'it returns false'. Refute it at one input. -/
def trainBoundsWrong : ChangeSpec := { name := "trainBounds", fn := fun _ => fun
  | [d1, d2] => { results := [.lit (.bool false)], args := [d1, d2] }
  | _ => none }
def TrainBoundsWrongFalsely : Prop := trainBoundsRow.holds Tryz.pinned (OpenSpec.ofChange trainBoundsWrong)

/-- 'gluepotlaw17.TrainBudget': WHATEVER THE INPUT: true; the input reads as it did. -/
def trainBudgetSpec : ChangeSpec := { name := "trainBudget", fn := fun _ => fun
  | [d1, d2, d3, d4] => { results := [.lit (.bool true)], args := [d1, d2, d3, d4] }
  | _ => none }
def trainBudgetRow : OpenClaim := { program := "ytnmacalbbmeedaagreat", sum := "c28eddb08293dcb4c00b7ede9f2d244123a42e003caf19e1b17aa8a134d56f85", func := "gluepot/gluepotlaw17.TrainBudget", spec := "trainBudget", inPlace := ["slices.overlaps[int]", "internal/bytealg.abigen_runtime_cmpstring"], unfollowed := true, recurses := true, plainKeys := false, apart := false }
def TrainBudgetSaid : Prop := trainBudgetRow.holds Tryz.pinned (OpenSpec.ofChange trainBudgetSpec)

/-- ITS FALSE NEIGHBOUR: 'it returns false'. Refute it at one input. -/
def trainBudgetWrong : ChangeSpec := { name := "trainBudget", fn := fun _ => fun
  | [d1, d2, d3, d4] => { results := [.lit (.bool false)], args := [d1, d2, d3, d4] }
  | _ => none }
def TrainBudgetWrongFalsely : Prop := trainBudgetRow.holds Tryz.pinned (OpenSpec.ofChange trainBudgetWrong)

/- THE SECOND FORM. 'bulk': how many values and letters a reading holds, each counted each time it is reached (what is shared counts as often as it is met; a slice's spare places count too). A statement '..UptoSaid' is the law's where the arguments, and the package variables that the reading takes, are together of bulk at most 1048576: NARROWER than '..Said'. Prove '..Said' where nothing that the law and all that it calls make is longer than what came in: it says more and counts as full. Else prove '..UptoSaid'. A law counts once. -/
mutual
def uptoBulk {H : Type} : DataW H → Nat
  | .lit (.string bytes) => bytes.length + 1
  | .lit _ => 1
  | .nil => 1
  | .ptr d => uptoBulk d + 1
  | .slice elems spare => uptoBulkAll elems + uptoBulkAll spare + 1
  | .agg parts => uptoBulkAll parts + 1
  | .iface _ d => uptoBulk d + 1
  | .map entries => uptoBulkEntries entries + 1
  | .held _ => 1
def uptoBulkAll {H : Type} : List (DataW H) → Nat
  | [] => 0
  | d :: r => uptoBulk d + uptoBulkAll r
def uptoBulkEntries {H : Type} : List (Lit × DataW H) → Nat
  | [] => 0
  | x :: r => uptoBulkEntry x + uptoBulkEntries r
def uptoBulkEntry {H : Type} : Lit × DataW H → Nat
  | (.string bytes, d) => bytes.length + uptoBulk d + 1
  | (_, d) => uptoBulk d + 1
 end
def uptoSmall : (H : Type) → List (DataW H) → Bool := fun _ ds => decide (uptoBulkAll ds ≤ 1048576)
def OpenSpec.upto (s : _root_.Go.ChangeSpec) : _root_.Go.OpenSpec := { _root_.Go.OpenSpec.ofChange s with cond := some uptoSmall }

/-- 'gluepotlaw17.TrainLearns', WHERE WHAT IT READS IS OF BULK AT MOST 1048576: true; the input reads as it did. -/
def trainLearnsUptoRow : OpenClaim := { program := "ytnmacalbbmeedaagreat", sum := "c28eddb08293dcb4c00b7ede9f2d244123a42e003caf19e1b17aa8a134d56f85", func := "gluepot/gluepotlaw17.TrainLearns", spec := "trainLearns", inPlace := ["slices.overlaps[int]", "internal/bytealg.abigen_runtime_cmpstring"], unfollowed := true, recurses := true, plainKeys := false, apart := false, narrowed := true }
def TrainLearnsUptoSaid : Prop := trainLearnsUptoRow.holds Tryz.pinned (OpenSpec.upto trainLearnsSpec)

/-- 'gluepotlaw17.TrainSteps', WHERE WHAT IT READS IS OF BULK AT MOST 1048576: true; the input reads as it did. -/
def trainStepsUptoRow : OpenClaim := { program := "ytnmacalbbmeedaagreat", sum := "c28eddb08293dcb4c00b7ede9f2d244123a42e003caf19e1b17aa8a134d56f85", func := "gluepot/gluepotlaw17.TrainSteps", spec := "trainSteps", inPlace := ["slices.overlaps[int]", "internal/bytealg.abigen_runtime_cmpstring"], unfollowed := true, recurses := true, plainKeys := false, apart := false, narrowed := true }
def TrainStepsUptoSaid : Prop := trainStepsUptoRow.holds Tryz.pinned (OpenSpec.upto trainStepsSpec)

/-- 'gluepotlaw17.TrainBounds', WHERE WHAT IT READS IS OF BULK AT MOST 1048576: true; the input reads as it did. -/
def trainBoundsUptoRow : OpenClaim := { program := "ytnmacalbbmeedaagreat", sum := "c28eddb08293dcb4c00b7ede9f2d244123a42e003caf19e1b17aa8a134d56f85", func := "gluepot/gluepotlaw17.TrainBounds", spec := "trainBounds", inPlace := ["slices.overlaps[int]", "internal/bytealg.abigen_runtime_cmpstring"], unfollowed := true, recurses := true, plainKeys := false, apart := false, narrowed := true }
def TrainBoundsUptoSaid : Prop := trainBoundsUptoRow.holds Tryz.pinned (OpenSpec.upto trainBoundsSpec)

/-- 'gluepotlaw17.TrainBudget', WHERE WHAT IT READS IS OF BULK AT MOST 1048576: true; the input reads as it did. -/
def trainBudgetUptoRow : OpenClaim := { program := "ytnmacalbbmeedaagreat", sum := "c28eddb08293dcb4c00b7ede9f2d244123a42e003caf19e1b17aa8a134d56f85", func := "gluepot/gluepotlaw17.TrainBudget", spec := "trainBudget", inPlace := ["slices.overlaps[int]", "internal/bytealg.abigen_runtime_cmpstring"], unfollowed := true, recurses := true, plainKeys := false, apart := false, narrowed := true }
def TrainBudgetUptoSaid : Prop := trainBudgetUptoRow.holds Tryz.pinned (OpenSpec.upto trainBudgetSpec)

end Rows
end Go.Proofs.YtnmacalbbmeedaaGreat
