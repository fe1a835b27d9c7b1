/-
  No cell of these rows narrows 'for every input' (looked for: loops, veiled, ifaces, maps, wideKeys, modest, calm, conditions, laid).
  DERIVED. THE GIVEN ROWS OF THIS SEAT. 3 by the template 'for every input the law returns true; each argument reads behind the call as it read before'; 0 by the template 'total and deterministic' (their statements: YtikdhlpmoldijaaTotals.lean).
  GIVEN WITH THE SEED: the statements are not yours to turn. If you find one false, say at which input.
  Laid BY PROGRAM, IN A SANDBOX (cutbox-rows.mjs): the forced cells as the released guide's own fill.sh prints them over the translation 2bd069d2917d1ba3… (all of the seat's roots in one cut). By AI agents, Wed Nov 11 2026. No macro, syntax, notation, axiom, sorry.
-/
import Derived.Test.YtikdhlpmoldijaaChecked
import GoSem.Claim
import GoSem.ClaimJoined
import GoSem.ClaimMapViews
import Derived.JoinedTies
import Derived.KernelRfl
namespace Go.Proofs.Ytikdhlpmoldijaa
/- THE CELL 'sum', in the pinned program and in every row, IS THE sha256 OF THE DUMP (.gsa) THAT YtikdhlpmoldijaaProg.lean LOADS. Nothing in Lean hashes anything: it is a label: what it is worth is what the hold of that sum in a sandbox is worth. -/
noncomputable def Try.pinned : Pinned := { name := "ytikdhlpmoldijaa", sum := "2bd069d2917d1ba36d019e68165a82a17a67cb847f2c3194e8833cc6e1e77698", checked := Try.checked }
namespace Rows
def none {H : Type} : Left H := { results := [], args := [] }

/-- 'gluepotlaw07.FreqPlays': WHATEVER THE INPUT: true; the input reads as it did. -/
def freqPlaysSpec : ChangeSpec := { name := "freqPlays", fn := fun _ => fun
  | [d1, d2] => { results := [.lit (.bool true)], args := [d1, d2] }
  | _ => none }
def freqPlaysRow : OpenClaim := { program := "ytikdhlpmoldijaa", sum := "2bd069d2917d1ba36d019e68165a82a17a67cb847f2c3194e8833cc6e1e77698", func := "gluepot/gluepotlaw07.FreqPlays", spec := "freqPlays", inPlace := ["internal/bytealg.abigen_runtime_cmpstring"], unfollowed := true, recurses := true, apart := false }
def FreqPlaysSaid : Prop := freqPlaysRow.holds Try.pinned (OpenSpec.ofChange freqPlaysSpec)

/-- ITS FALSE NEIGHBOUR: 'it returns false'. Refute it at one input. -/
def freqPlaysWrong : ChangeSpec := { name := "freqPlays", fn := fun _ => fun
  | [d1, d2] => { results := [.lit (.bool false)], args := [d1, d2] }
  | _ => none }
def FreqPlaysWrongFalsely : Prop := freqPlaysRow.holds Try.pinned (OpenSpec.ofChange freqPlaysWrong)

/-- 'gluepotlaw07.FreqOrder': WHATEVER THE INPUT: true; the input reads as it did. -/
def freqOrderSpec : ChangeSpec := { name := "freqOrder", fn := fun _ => fun
  | [d1, d2, d3] => { results := [.lit (.bool true)], args := [d1, d2, d3] }
  | _ => none }
def freqOrderRow : OpenClaim := { program := "ytikdhlpmoldijaa", sum := "2bd069d2917d1ba36d019e68165a82a17a67cb847f2c3194e8833cc6e1e77698", func := "gluepot/gluepotlaw07.FreqOrder", spec := "freqOrder", inPlace := ["internal/bytealg.abigen_runtime_cmpstring"], unfollowed := true, recurses := true, apart := false }
def FreqOrderSaid : Prop := freqOrderRow.holds Try.pinned (OpenSpec.ofChange freqOrderSpec)

/-- ITS FALSE NEIGHBOUR: 'it returns false'. Refute it at one input. -/
def freqOrderWrong : ChangeSpec := { name := "freqOrder", fn := fun _ => fun
  | [d1, d2, d3] => { results := [.lit (.bool false)], args := [d1, d2, d3] }
  | _ => none }
def FreqOrderWrongFalsely : Prop := freqOrderRow.holds Try.pinned (OpenSpec.ofChange freqOrderWrong)

/-- 'gluepotlaw07.FreqNone': WHATEVER THE INPUT: true; the input reads as it did. -/
def freqNoneSpec : ChangeSpec := { name := "freqNone", fn := fun _ => fun
  | [d] => { results := [.lit (.bool true)], args := [d] }
  | _ => none }
def freqNoneRow : OpenClaim := { program := "ytikdhlpmoldijaa", sum := "2bd069d2917d1ba36d019e68165a82a17a67cb847f2c3194e8833cc6e1e77698", func := "gluepot/gluepotlaw07.FreqNone", spec := "freqNone", inPlace := ["internal/bytealg.abigen_runtime_cmpstring"], unfollowed := true, recurses := true, apart := false }
def FreqNoneSaid : Prop := freqNoneRow.holds Try.pinned (OpenSpec.ofChange freqNoneSpec)

/-- ITS FALSE NEIGHBOUR: 'it returns false'. Refute it at one input. -/
def freqNoneWrong : ChangeSpec := { name := "freqNone", fn := fun _ => fun
  | [d] => { results := [.lit (.bool false)], args := [d] }
  | _ => none }
def FreqNoneWrongFalsely : Prop := freqNoneRow.holds Try.pinned (OpenSpec.ofChange freqNoneWrong)

/- THE SECOND FORM. 'bulk': how many values and letters a reading holds, each counted each time it is reached (what is shared counts as often as it is met; a slice's spare places count too). A statement '..UptoSaid' is the law's where the arguments, and the package variables that the reading takes, are together of bulk at most 1048576: NARROWER than '..Said'. Prove '..Said' where nothing that the law and all that it calls make is longer than what came in: it says more and counts as full. Else prove '..UptoSaid'. A law counts once. -/
mutual
def uptoBulk {H : Type} : DataW H → Nat
  | .lit (.string bytes) => bytes.length + 1
  | .lit _ => 1
  | .nil => 1
  | .ptr d => uptoBulk d + 1
  | .slice elems spare => uptoBulkAll elems + uptoBulkAll spare + 1
  | .agg parts => uptoBulkAll parts + 1
  | .iface _ d => uptoBulk d + 1
  | .map entries => uptoBulkEntries entries + 1
  | .held _ => 1
def uptoBulkAll {H : Type} : List (DataW H) → Nat
  | [] => 0
  | d :: r => uptoBulk d + uptoBulkAll r
def uptoBulkEntries {H : Type} : List (Lit × DataW H) → Nat
  | [] => 0
  | x :: r => uptoBulkEntry x + uptoBulkEntries r
def uptoBulkEntry {H : Type} : Lit × DataW H → Nat
  | (.string bytes, d) => bytes.length + uptoBulk d + 1
  | (_, d) => uptoBulk d + 1
 end
def uptoSmall : (H : Type) → List (DataW H) → Bool := fun _ ds => decide (uptoBulkAll ds ≤ 1048576)
def OpenSpec.upto (s : _root_.Go.ChangeSpec) : _root_.Go.OpenSpec := { _root_.Go.OpenSpec.ofChange s with cond := some uptoSmall }

/-- 'gluepotlaw07.FreqPlays', WHERE WHAT IT READS IS OF BULK AT MOST 1048576: true; the input reads as it did. -/
def freqPlaysUptoRow : OpenClaim := { program := "ytikdhlpmoldijaa", sum := "2bd069d2917d1ba36d019e68165a82a17a67cb847f2c3194e8833cc6e1e77698", func := "gluepot/gluepotlaw07.FreqPlays", spec := "freqPlays", inPlace := ["internal/bytealg.abigen_runtime_cmpstring"], unfollowed := true, recurses := true, apart := false, narrowed := true }
def FreqPlaysUptoSaid : Prop := freqPlaysUptoRow.holds Try.pinned (OpenSpec.upto freqPlaysSpec)

/-- 'gluepotlaw07.FreqOrder', WHERE WHAT IT READS IS OF BULK AT MOST 1048576: true; the input reads as it did. -/
def freqOrderUptoRow : OpenClaim := { program := "ytikdhlpmoldijaa", sum := "2bd069d2917d1ba36d019e68165a82a17a67cb847f2c3194e8833cc6e1e77698", func := "gluepot/gluepotlaw07.FreqOrder", spec := "freqOrder", inPlace := ["internal/bytealg.abigen_runtime_cmpstring"], unfollowed := true, recurses := true, apart := false, narrowed := true }
def FreqOrderUptoSaid : Prop := freqOrderUptoRow.holds Try.pinned (OpenSpec.upto freqOrderSpec)

/-- 'gluepotlaw07.FreqNone', WHERE WHAT IT READS IS OF BULK AT MOST 1048576: true; the input reads as it did. -/
def freqNoneUptoRow : OpenClaim := { program := "ytikdhlpmoldijaa", sum := "2bd069d2917d1ba36d019e68165a82a17a67cb847f2c3194e8833cc6e1e77698", func := "gluepot/gluepotlaw07.FreqNone", spec := "freqNone", inPlace := ["internal/bytealg.abigen_runtime_cmpstring"], unfollowed := true, recurses := true, apart := false, narrowed := true }
def FreqNoneUptoSaid : Prop := freqNoneUptoRow.holds Try.pinned (OpenSpec.upto freqNoneSpec)

end Rows
end Go.Proofs.Ytikdhlpmoldijaa
