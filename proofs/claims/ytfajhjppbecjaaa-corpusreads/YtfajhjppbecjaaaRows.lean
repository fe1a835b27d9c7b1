/-
  No cell of these rows narrows 'for every input' (looked for: loops, veiled, ifaces, maps, wideKeys, modest, calm, conditions, laid).
  DERIVED. THE GIVEN ROWS OF THIS SEAT. 3 by the template 'for every input the law returns true; each argument reads behind the call as it read before'; 0 by the template 'total and deterministic' (their statements: YtfajhjppbecjaaaTotals.lean).
  GIVEN WITH THE SEED: the statements are not yours to turn. If you find one false, say at which input.
  Laid BY PROGRAM, IN A SANDBOX (cutbox-rows.mjs): the forced cells as the released guide's own fill.sh prints them over the translation eb3c2e6e286372c4… (all of the seat's roots in one cut). By AI agents, Wed Nov 11 2026. No macro, syntax, notation, axiom, sorry.
-/
import Derived.Test.YtfajhjppbecjaaaChecked
import GoSem.Claim
import GoSem.ClaimJoined
import GoSem.ClaimMapViews
import Derived.JoinedTies
import Derived.KernelRfl
namespace Go.Proofs.Ytfajhjppbecjaaa
/- THE CELL 'sum', in the pinned program and in every row, IS THE sha256 OF THE DUMP (.gsa) THAT YtfajhjppbecjaaaProg.lean LOADS. Nothing in Lean hashes anything: it is a label: what it is worth is what the hold of that sum in a sandbox is worth. -/
noncomputable def Try.pinned : Pinned := { name := "ytfajhjppbecjaaa", sum := "eb3c2e6e286372c4c7d08f4ff14722f00743430e313c82c4d8b8c5b6c4672aea", checked := Try.checked }
namespace Rows
def none {H : Type} : Left H := { results := [], args := [] }

/-- 'gluepotlaw05.CorpusReads': WHATEVER THE INPUT: true; the input reads as it did. -/
def corpusReadsSpec : ChangeSpec := { name := "corpusReads", fn := fun _ => fun
  | [d1, d2, d3, d4] => { results := [.lit (.bool true)], args := [d1, d2, d3, d4] }
  | _ => none }
def corpusReadsRow : OpenClaim := { program := "ytfajhjppbecjaaa", sum := "eb3c2e6e286372c4c7d08f4ff14722f00743430e313c82c4d8b8c5b6c4672aea", func := "gluepot/gluepotlaw05.CorpusReads", spec := "corpusReads", unfollowed := true, recurses := true, apart := false }
def CorpusReadsSaid : Prop := corpusReadsRow.holds Try.pinned (OpenSpec.ofChange corpusReadsSpec)

/-- ITS FALSE NEIGHBOUR: 'it returns false'. Refute it at one input. -/
def corpusReadsWrong : ChangeSpec := { name := "corpusReads", fn := fun _ => fun
  | [d1, d2, d3, d4] => { results := [.lit (.bool false)], args := [d1, d2, d3, d4] }
  | _ => none }
def CorpusReadsWrongFalsely : Prop := corpusReadsRow.holds Try.pinned (OpenSpec.ofChange corpusReadsWrong)

/-- 'gluepotlaw05.CorpusCuts': WHATEVER THE INPUT: true; the input reads as it did. -/
def corpusCutsSpec : ChangeSpec := { name := "corpusCuts", fn := fun _ => fun
  | [d1, d2, d3] => { results := [.lit (.bool true)], args := [d1, d2, d3] }
  | _ => none }
def corpusCutsRow : OpenClaim := { program := "ytfajhjppbecjaaa", sum := "eb3c2e6e286372c4c7d08f4ff14722f00743430e313c82c4d8b8c5b6c4672aea", func := "gluepot/gluepotlaw05.CorpusCuts", spec := "corpusCuts", unfollowed := true, recurses := true, apart := false }
def CorpusCutsSaid : Prop := corpusCutsRow.holds Try.pinned (OpenSpec.ofChange corpusCutsSpec)

/-- ITS FALSE NEIGHBOUR: 'it returns false'. Refute it at one input. -/
def corpusCutsWrong : ChangeSpec := { name := "corpusCuts", fn := fun _ => fun
  | [d1, d2, d3] => { results := [.lit (.bool false)], args := [d1, d2, d3] }
  | _ => none }
def CorpusCutsWrongFalsely : Prop := corpusCutsRow.holds Try.pinned (OpenSpec.ofChange corpusCutsWrong)

/-- 'gluepotlaw05.CorpusKinds': WHATEVER THE INPUT: true; the input reads as it did. -/
def corpusKindsSpec : ChangeSpec := { name := "corpusKinds", fn := fun _ => fun
  | [d1, d2] => { results := [.lit (.bool true)], args := [d1, d2] }
  | _ => none }
def corpusKindsRow : OpenClaim := { program := "ytfajhjppbecjaaa", sum := "eb3c2e6e286372c4c7d08f4ff14722f00743430e313c82c4d8b8c5b6c4672aea", func := "gluepot/gluepotlaw05.CorpusKinds", spec := "corpusKinds", unfollowed := true, recurses := true, apart := false }
def CorpusKindsSaid : Prop := corpusKindsRow.holds Try.pinned (OpenSpec.ofChange corpusKindsSpec)

/-- ITS FALSE NEIGHBOUR: 'it returns false'. Refute it at one input. -/
def corpusKindsWrong : ChangeSpec := { name := "corpusKinds", fn := fun _ => fun
  | [d1, d2] => { results := [.lit (.bool false)], args := [d1, d2] }
  | _ => none }
def CorpusKindsWrongFalsely : Prop := corpusKindsRow.holds Try.pinned (OpenSpec.ofChange corpusKindsWrong)

/- THE SECOND FORM. 'bulk': how many values and letters a reading holds, each counted each time it is reached (what is shared counts as often as it is met; a slice's spare places count too). A statement '..UptoSaid' is the law's where the arguments, and the package variables that the reading takes, are together of bulk at most 1048576: NARROWER than '..Said'. Prove '..Said' where nothing that the law and all that it calls make is longer than what came in: it says more and counts as full. Else prove '..UptoSaid'. A law counts once. -/
mutual
def uptoBulk {H : Type} : DataW H → Nat
  | .lit (.string bytes) => bytes.length + 1
  | .lit _ => 1
  | .nil => 1
  | .ptr d => uptoBulk d + 1
  | .slice elems spare => uptoBulkAll elems + uptoBulkAll spare + 1
  | .agg parts => uptoBulkAll parts + 1
  | .iface _ d => uptoBulk d + 1
  | .map entries => uptoBulkEntries entries + 1
  | .held _ => 1
def uptoBulkAll {H : Type} : List (DataW H) → Nat
  | [] => 0
  | d :: r => uptoBulk d + uptoBulkAll r
def uptoBulkEntries {H : Type} : List (Lit × DataW H) → Nat
  | [] => 0
  | x :: r => uptoBulkEntry x + uptoBulkEntries r
def uptoBulkEntry {H : Type} : Lit × DataW H → Nat
  | (.string bytes, d) => bytes.length + uptoBulk d + 1
  | (_, d) => uptoBulk d + 1
 end
def uptoSmall : (H : Type) → List (DataW H) → Bool := fun _ ds => decide (uptoBulkAll ds ≤ 1048576)
def OpenSpec.upto (s : _root_.Go.ChangeSpec) : _root_.Go.OpenSpec := { _root_.Go.OpenSpec.ofChange s with cond := some uptoSmall }

/-- 'gluepotlaw05.CorpusReads', WHERE WHAT IT READS IS OF BULK AT MOST 1048576: true; the input reads as it did. -/
def corpusReadsUptoRow : OpenClaim := { program := "ytfajhjppbecjaaa", sum := "eb3c2e6e286372c4c7d08f4ff14722f00743430e313c82c4d8b8c5b6c4672aea", func := "gluepot/gluepotlaw05.CorpusReads", spec := "corpusReads", unfollowed := true, recurses := true, apart := false, narrowed := true }
def CorpusReadsUptoSaid : Prop := corpusReadsUptoRow.holds Try.pinned (OpenSpec.upto corpusReadsSpec)

/-- 'gluepotlaw05.CorpusCuts', WHERE WHAT IT READS IS OF BULK AT MOST 1048576: true; the input reads as it did. -/
def corpusCutsUptoRow : OpenClaim := { program := "ytfajhjppbecjaaa", sum := "eb3c2e6e286372c4c7d08f4ff14722f00743430e313c82c4d8b8c5b6c4672aea", func := "gluepot/gluepotlaw05.CorpusCuts", spec := "corpusCuts", unfollowed := true, recurses := true, apart := false, narrowed := true }
def CorpusCutsUptoSaid : Prop := corpusCutsUptoRow.holds Try.pinned (OpenSpec.upto corpusCutsSpec)

/-- 'gluepotlaw05.CorpusKinds', WHERE WHAT IT READS IS OF BULK AT MOST 1048576: true; the input reads as it did. -/
def corpusKindsUptoRow : OpenClaim := { program := "ytfajhjppbecjaaa", sum := "eb3c2e6e286372c4c7d08f4ff14722f00743430e313c82c4d8b8c5b6c4672aea", func := "gluepot/gluepotlaw05.CorpusKinds", spec := "corpusKinds", unfollowed := true, recurses := true, apart := false, narrowed := true }
def CorpusKindsUptoSaid : Prop := corpusKindsUptoRow.holds Try.pinned (OpenSpec.upto corpusKindsSpec)

end Rows
end Go.Proofs.Ytfajhjppbecjaaa
