/-
  No cell of these rows narrows 'for every input' (looked for: loops, veiled, ifaces, maps, wideKeys, modest, calm, conditions, laid).
  DERIVED. THE GIVEN ROWS OF THIS SEAT. 3 by the template 'for every input the law returns true; each argument reads behind the call as it read before'; 0 by the template 'total and deterministic' (their statements: YtbnekkcjkdghcaaTotals.lean).
  GIVEN WITH THE SEED: the statements are not yours to turn. If you find one false, say at which input.
  Laid BY PROGRAM, IN A SANDBOX (cutbox-rows.mjs): the forced cells as the released guide's own fill.sh prints them over the translation 73e8847cb6738675… (all of the seat's roots in one cut). By AI agents, Wed Nov 11 2026. No macro, syntax, notation, axiom, sorry.
-/
import Derived.Test.YtbnekkcjkdghcaaChecked
import GoSem.Claim
import GoSem.ClaimJoined
import GoSem.ClaimMapViews
import Derived.JoinedTies
import Derived.KernelRfl
namespace Go.Proofs.Ytbnekkcjkdghcaa
/- THE CELL 'sum', in the pinned program and in every row, IS THE sha256 OF THE DUMP (.gsa) THAT YtbnekkcjkdghcaaProg.lean LOADS. Nothing in Lean hashes anything: it is a label: what it is worth is what the hold of that sum in a sandbox is worth. -/
noncomputable def Try.pinned : Pinned := { name := "ytbnekkcjkdghcaa", sum := "73e8847cb6738675ccaa66c2b681f716da16fac384647f0785c67c3bb5ea076b", checked := Try.checked }
namespace Rows
def none {H : Type} : Left H := { results := [], args := [] }

/-- 'gluepotlaw15.LazyPlays': WHATEVER THE INPUT: true; the input reads as it did. -/
def lazyPlaysSpec : ChangeSpec := { name := "lazyPlays", fn := fun _ => fun
  | [d] => { results := [.lit (.bool true)], args := [d] }
  | _ => none }
def lazyPlaysRow : OpenClaim := { program := "ytbnekkcjkdghcaa", sum := "73e8847cb6738675ccaa66c2b681f716da16fac384647f0785c67c3bb5ea076b", func := "gluepot/gluepotlaw15.LazyPlays", spec := "lazyPlays", inPlace := ["internal/bytealg.abigen_runtime_cmpstring"], unfollowed := true, recurses := true, plainKeys := false, apart := false }
def LazyPlaysSaid : Prop := lazyPlaysRow.holds Try.pinned (OpenSpec.ofChange lazyPlaysSpec)

/-- ITS FALSE NEIGHBOUR: 'it returns false'. Refute it at one input. -/
def lazyPlaysWrong : ChangeSpec := { name := "lazyPlays", fn := fun _ => fun
  | [d] => { results := [.lit (.bool false)], args := [d] }
  | _ => none }
def LazyPlaysWrongFalsely : Prop := lazyPlaysRow.holds Try.pinned (OpenSpec.ofChange lazyPlaysWrong)

/-- 'gluepotlaw15.LazyAll': WHATEVER THE INPUT: true; the input reads as it did. -/
def lazyAllSpec : ChangeSpec := { name := "lazyAll", fn := fun _ => fun
  | [d] => { results := [.lit (.bool true)], args := [d] }
  | _ => none }
def lazyAllRow : OpenClaim := { program := "ytbnekkcjkdghcaa", sum := "73e8847cb6738675ccaa66c2b681f716da16fac384647f0785c67c3bb5ea076b", func := "gluepot/gluepotlaw15.LazyAll", spec := "lazyAll", inPlace := ["internal/bytealg.abigen_runtime_cmpstring"], unfollowed := true, recurses := true, plainKeys := false, apart := false }
def LazyAllSaid : Prop := lazyAllRow.holds Try.pinned (OpenSpec.ofChange lazyAllSpec)

/-- ITS FALSE NEIGHBOUR: 'it returns false'. Refute it at one input. -/
def lazyAllWrong : ChangeSpec := { name := "lazyAll", fn := fun _ => fun
  | [d] => { results := [.lit (.bool false)], args := [d] }
  | _ => none }
def LazyAllWrongFalsely : Prop := lazyAllRow.holds Try.pinned (OpenSpec.ofChange lazyAllWrong)

/-- 'gluepotlaw15.LazyNone': WHATEVER THE INPUT: true; the input reads as it did. -/
def lazyNoneSpec : ChangeSpec := { name := "lazyNone", fn := fun _ => fun
  | [d1, d2] => { results := [.lit (.bool true)], args := [d1, d2] }
  | _ => none }
def lazyNoneRow : OpenClaim := { program := "ytbnekkcjkdghcaa", sum := "73e8847cb6738675ccaa66c2b681f716da16fac384647f0785c67c3bb5ea076b", func := "gluepot/gluepotlaw15.LazyNone", spec := "lazyNone", inPlace := ["internal/bytealg.abigen_runtime_cmpstring"], unfollowed := true, recurses := true, plainKeys := false, apart := false }
def LazyNoneSaid : Prop := lazyNoneRow.holds Try.pinned (OpenSpec.ofChange lazyNoneSpec)

/-- ITS FALSE NEIGHBOUR: 'it returns false'. Refute it at one input. -/
def lazyNoneWrong : ChangeSpec := { name := "lazyNone", fn := fun _ => fun
  | [d1, d2] => { results := [.lit (.bool false)], args := [d1, d2] }
  | _ => none }
def LazyNoneWrongFalsely : Prop := lazyNoneRow.holds Try.pinned (OpenSpec.ofChange lazyNoneWrong)

/- THE SECOND FORM. 'bulk': how many values and letters a reading holds, each counted each time it is reached (what is shared counts as often as it is met; a slice's spare places count too). A statement '..UptoSaid' is the law's where the arguments, and the package variables that the reading takes, are together of bulk at most 1048576: NARROWER than '..Said'. Prove '..Said' where nothing that the law and all that it calls make is longer than what came in: it says more and counts as full. Else prove '..UptoSaid'. A law counts once. -/
mutual
def uptoBulk {H : Type} : DataW H → Nat
  | .lit (.string bytes) => bytes.length + 1
  | .lit _ => 1
  | .nil => 1
  | .ptr d => uptoBulk d + 1
  | .slice elems spare => uptoBulkAll elems + uptoBulkAll spare + 1
  | .agg parts => uptoBulkAll parts + 1
  | .iface _ d => uptoBulk d + 1
  | .map entries => uptoBulkEntries entries + 1
  | .held _ => 1
def uptoBulkAll {H : Type} : List (DataW H) → Nat
  | [] => 0
  | d :: r => uptoBulk d + uptoBulkAll r
def uptoBulkEntries {H : Type} : List (Lit × DataW H) → Nat
  | [] => 0
  | x :: r => uptoBulkEntry x + uptoBulkEntries r
def uptoBulkEntry {H : Type} : Lit × DataW H → Nat
  | (.string bytes, d) => bytes.length + uptoBulk d + 1
  | (_, d) => uptoBulk d + 1
 end
def uptoSmall : (H : Type) → List (DataW H) → Bool := fun _ ds => decide (uptoBulkAll ds ≤ 1048576)
def OpenSpec.upto (s : _root_.Go.ChangeSpec) : _root_.Go.OpenSpec := { _root_.Go.OpenSpec.ofChange s with cond := some uptoSmall }

/-- 'gluepotlaw15.LazyPlays', WHERE WHAT IT READS IS OF BULK AT MOST 1048576: true; the input reads as it did. -/
def lazyPlaysUptoRow : OpenClaim := { program := "ytbnekkcjkdghcaa", sum := "73e8847cb6738675ccaa66c2b681f716da16fac384647f0785c67c3bb5ea076b", func := "gluepot/gluepotlaw15.LazyPlays", spec := "lazyPlays", inPlace := ["internal/bytealg.abigen_runtime_cmpstring"], unfollowed := true, recurses := true, plainKeys := false, apart := false, narrowed := true }
def LazyPlaysUptoSaid : Prop := lazyPlaysUptoRow.holds Try.pinned (OpenSpec.upto lazyPlaysSpec)

/-- 'gluepotlaw15.LazyAll', WHERE WHAT IT READS IS OF BULK AT MOST 1048576: true; the input reads as it did. -/
def lazyAllUptoRow : OpenClaim := { program := "ytbnekkcjkdghcaa", sum := "73e8847cb6738675ccaa66c2b681f716da16fac384647f0785c67c3bb5ea076b", func := "gluepot/gluepotlaw15.LazyAll", spec := "lazyAll", inPlace := ["internal/bytealg.abigen_runtime_cmpstring"], unfollowed := true, recurses := true, plainKeys := false, apart := false, narrowed := true }
def LazyAllUptoSaid : Prop := lazyAllUptoRow.holds Try.pinned (OpenSpec.upto lazyAllSpec)

/-- 'gluepotlaw15.LazyNone', WHERE WHAT IT READS IS OF BULK AT MOST 1048576: true; the input reads as it did. -/
def lazyNoneUptoRow : OpenClaim := { program := "ytbnekkcjkdghcaa", sum := "73e8847cb6738675ccaa66c2b681f716da16fac384647f0785c67c3bb5ea076b", func := "gluepot/gluepotlaw15.LazyNone", spec := "lazyNone", inPlace := ["internal/bytealg.abigen_runtime_cmpstring"], unfollowed := true, recurses := true, plainKeys := false, apart := false, narrowed := true }
def LazyNoneUptoSaid : Prop := lazyNoneUptoRow.holds Try.pinned (OpenSpec.upto lazyNoneSpec)

end Rows
end Go.Proofs.Ytbnekkcjkdghcaa
