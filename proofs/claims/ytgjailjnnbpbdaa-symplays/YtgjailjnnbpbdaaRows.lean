/-
  No cell of these rows narrows 'for every input' (looked for: loops, veiled, ifaces, maps, wideKeys, modest, calm, conditions, laid).
  DERIVED. THE GIVEN ROWS OF THIS SEAT. 3 by the template 'for every input the law returns true; each argument reads behind the call as it read before'; 0 by the template 'total and deterministic' (their statements: YtgjailjnnbpbdaaTotals.lean).
  GIVEN WITH THE SEED: the statements are not yours to turn. If you find one false, say at which input.
  Laid BY PROGRAM, IN A SANDBOX (cutbox-rows.mjs): the forced cells as the released guide's own fill.sh prints them over the translation 621982b6a0974ea6… (all of the seat's roots in one cut). By AI agents, Wed Nov 11 2026. No macro, syntax, notation, axiom, sorry.
-/
import Derived.Test.YtgjailjnnbpbdaaChecked
import GoSem.Claim
import GoSem.ClaimJoined
import GoSem.ClaimMapViews
import Derived.JoinedTies
import Derived.KernelRfl
namespace Go.Proofs.Ytgjailjnnbpbdaa
/- THE CELL 'sum', in the pinned program and in every row, IS THE sha256 OF THE DUMP (.gsa) THAT YtgjailjnnbpbdaaProg.lean LOADS. Nothing in Lean hashes anything: it is a label: what it is worth is what the hold of that sum in a sandbox is worth. -/
noncomputable def Try.pinned : Pinned := { name := "ytgjailjnnbpbdaa", sum := "621982b6a0974ea64dd7797ddb86c4d850ac5412d268ecbacc83603d9db25b20", checked := Try.checked }
namespace Rows
def none {H : Type} : Left H := { results := [], args := [] }

/-- 'gluepotlaw09.SymPlays': WHATEVER THE INPUT: true; the input reads as it did. -/
def symPlaysSpec : ChangeSpec := { name := "symPlays", fn := fun _ => fun
  | [d1, d2, d3] => { results := [.lit (.bool true)], args := [d1, d2, d3] }
  | _ => none }
def symPlaysRow : OpenClaim := { program := "ytgjailjnnbpbdaa", sum := "621982b6a0974ea64dd7797ddb86c4d850ac5412d268ecbacc83603d9db25b20", func := "gluepot/gluepotlaw09.SymPlays", spec := "symPlays", apart := false }
def SymPlaysSaid : Prop := symPlaysRow.holds Try.pinned (OpenSpec.ofChange symPlaysSpec)

/-- ITS FALSE NEIGHBOUR: 'it returns false'. Refute it at one input. -/
def symPlaysWrong : ChangeSpec := { name := "symPlays", fn := fun _ => fun
  | [d1, d2, d3] => { results := [.lit (.bool false)], args := [d1, d2, d3] }
  | _ => none }
def SymPlaysWrongFalsely : Prop := symPlaysRow.holds Try.pinned (OpenSpec.ofChange symPlaysWrong)

/-- 'gluepotlaw09.SymUnique': WHATEVER THE INPUT: true; the input reads as it did. -/
def symUniqueSpec : ChangeSpec := { name := "symUnique", fn := fun _ => fun
  | [d1, d2, d3] => { results := [.lit (.bool true)], args := [d1, d2, d3] }
  | _ => none }
def symUniqueRow : OpenClaim := { program := "ytgjailjnnbpbdaa", sum := "621982b6a0974ea64dd7797ddb86c4d850ac5412d268ecbacc83603d9db25b20", func := "gluepot/gluepotlaw09.SymUnique", spec := "symUnique", apart := false }
def SymUniqueSaid : Prop := symUniqueRow.holds Try.pinned (OpenSpec.ofChange symUniqueSpec)

/-- ITS FALSE NEIGHBOUR: 'it returns false'. Refute it at one input. -/
def symUniqueWrong : ChangeSpec := { name := "symUnique", fn := fun _ => fun
  | [d1, d2, d3] => { results := [.lit (.bool false)], args := [d1, d2, d3] }
  | _ => none }
def SymUniqueWrongFalsely : Prop := symUniqueRow.holds Try.pinned (OpenSpec.ofChange symUniqueWrong)

/-- 'gluepotlaw09.SymNone': WHATEVER THE INPUT: true; the input reads as it did. -/
def symNoneSpec : ChangeSpec := { name := "symNone", fn := fun _ => fun
  | [d1, d2] => { results := [.lit (.bool true)], args := [d1, d2] }
  | _ => none }
def symNoneRow : OpenClaim := { program := "ytgjailjnnbpbdaa", sum := "621982b6a0974ea64dd7797ddb86c4d850ac5412d268ecbacc83603d9db25b20", func := "gluepot/gluepotlaw09.SymNone", spec := "symNone", apart := false }
def SymNoneSaid : Prop := symNoneRow.holds Try.pinned (OpenSpec.ofChange symNoneSpec)

/-- ITS FALSE NEIGHBOUR: 'it returns false'. Refute it at one input. -/
def symNoneWrong : ChangeSpec := { name := "symNone", fn := fun _ => fun
  | [d1, d2] => { results := [.lit (.bool false)], args := [d1, d2] }
  | _ => none }
def SymNoneWrongFalsely : Prop := symNoneRow.holds Try.pinned (OpenSpec.ofChange symNoneWrong)

/- THE SECOND FORM. 'bulk': how many values and letters a reading holds, each counted each time it is reached (what is shared counts as often as it is met; a slice's spare places count too). A statement '..UptoSaid' is the law's where the arguments, and the package variables that the reading takes, are together of bulk at most 1048576: NARROWER than '..Said'. Prove '..Said' where nothing that the law and all that it calls make is longer than what came in: it says more and counts as full. Else prove '..UptoSaid'. A law counts once. -/
mutual
def uptoBulk {H : Type} : DataW H → Nat
  | .lit (.string bytes) => bytes.length + 1
  | .lit _ => 1
  | .nil => 1
  | .ptr d => uptoBulk d + 1
  | .slice elems spare => uptoBulkAll elems + uptoBulkAll spare + 1
  | .agg parts => uptoBulkAll parts + 1
  | .iface _ d => uptoBulk d + 1
  | .map entries => uptoBulkEntries entries + 1
  | .held _ => 1
def uptoBulkAll {H : Type} : List (DataW H) → Nat
  | [] => 0
  | d :: r => uptoBulk d + uptoBulkAll r
def uptoBulkEntries {H : Type} : List (Lit × DataW H) → Nat
  | [] => 0
  | x :: r => uptoBulkEntry x + uptoBulkEntries r
def uptoBulkEntry {H : Type} : Lit × DataW H → Nat
  | (.string bytes, d) => bytes.length + uptoBulk d + 1
  | (_, d) => uptoBulk d + 1
 end
def uptoSmall : (H : Type) → List (DataW H) → Bool := fun _ ds => decide (uptoBulkAll ds ≤ 1048576)
def OpenSpec.upto (s : _root_.Go.ChangeSpec) : _root_.Go.OpenSpec := { _root_.Go.OpenSpec.ofChange s with cond := some uptoSmall }

/-- 'gluepotlaw09.SymPlays', WHERE WHAT IT READS IS OF BULK AT MOST 1048576: true; the input reads as it did. -/
def symPlaysUptoRow : OpenClaim := { program := "ytgjailjnnbpbdaa", sum := "621982b6a0974ea64dd7797ddb86c4d850ac5412d268ecbacc83603d9db25b20", func := "gluepot/gluepotlaw09.SymPlays", spec := "symPlays", apart := false, narrowed := true }
def SymPlaysUptoSaid : Prop := symPlaysUptoRow.holds Try.pinned (OpenSpec.upto symPlaysSpec)

/-- 'gluepotlaw09.SymUnique', WHERE WHAT IT READS IS OF BULK AT MOST 1048576: true; the input reads as it did. -/
def symUniqueUptoRow : OpenClaim := { program := "ytgjailjnnbpbdaa", sum := "621982b6a0974ea64dd7797ddb86c4d850ac5412d268ecbacc83603d9db25b20", func := "gluepot/gluepotlaw09.SymUnique", spec := "symUnique", apart := false, narrowed := true }
def SymUniqueUptoSaid : Prop := symUniqueUptoRow.holds Try.pinned (OpenSpec.upto symUniqueSpec)

/-- 'gluepotlaw09.SymNone', WHERE WHAT IT READS IS OF BULK AT MOST 1048576: true; the input reads as it did. -/
def symNoneUptoRow : OpenClaim := { program := "ytgjailjnnbpbdaa", sum := "621982b6a0974ea64dd7797ddb86c4d850ac5412d268ecbacc83603d9db25b20", func := "gluepot/gluepotlaw09.SymNone", spec := "symNone", apart := false, narrowed := true }
def SymNoneUptoSaid : Prop := symNoneUptoRow.holds Try.pinned (OpenSpec.upto symNoneSpec)

end Rows
end Go.Proofs.Ytgjailjnnbpbdaa
