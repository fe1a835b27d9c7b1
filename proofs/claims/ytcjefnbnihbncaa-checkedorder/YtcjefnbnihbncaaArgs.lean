/- Arguments that are slices, opened. -/
import Derived.Test.YtcjefnbnihbncaaMem
import Derived.SliceStrings
import Derived.ChangeOld
import Derived.WideShapes
namespace Go.Proofs.Ytcjefnbnihbncaa
open Go.ChangeShapes Go.WideShapes Go.RowKit

theorem Try.cells9 : Try.prog.cellsOf 9 = 1 := by kernel_rfl
theorem block_of_cell {w : World} {a : Addr} {j : Nat} {u : Value} (h : w.cell? (a.add j) = some u) : a.block < w.heap.size := by
  have hb : (a.add j).block = a.block := by unfold Addr.add; split <;> rfl
  have := World.block_lt_of_cell? w _ h
  rwa [hb] at this
end Go.Proofs.Ytcjefnbnihbncaa
