/- Arguments that are slices, opened. -/
import Derived.Test.YtnonkhnajloloaaMem
import Derived.SliceStrings
import Derived.ChangeOld
import Derived.WideShapes
namespace Go.Proofs.Ytnonkhnajloloaa
open Go.ChangeShapes Go.WideShapes Go.RowKit

set_option maxRecDepth 100000 in
theorem Try.cells9 : Try.prog.cellsOf 9 = 1 := by kernel_rfl
set_option maxRecDepth 100000 in
theorem block_of_cell {w : World} {a : Addr} {j : Nat} {u : Value} (h : w.cell? (a.add j) = some u) : a.block < w.heap.size := by
  have hb : (a.add j).block = a.block := by unfold Addr.add; split <;> rfl
  have := World.block_lt_of_cell? w _ h
  rwa [hb] at this
set_option maxRecDepth 100000 in
theorem add_block (ad : Addr) (j : Nat) : (ad.add j).block = ad.block := by unfold Addr.add; split <;> rfl
/-- A nil row has no room. -/
def nilNone (v : Value) : Prop := ∀ n c, v = .slice none n c → c = 0
set_option maxRecDepth 100000 in
theorem Try.cells3 : Try.prog.cellsOf 3 = 1 := by kernel_rfl
set_option maxRecDepth 100000 in
theorem strs_head {w : World} {a : Option Addr} {n cap k : Nat} {P : List (List UInt8)} (h : strsAt w (.slice a n cap) P) (hk : k ≤ P.length) : strsAt w (.slice a k cap) (P.take k) := by
  obtain ⟨a', cap', e, hc⟩ := h
  cases e
  refine ⟨a, cap, by rw [List.length_take, Nat.min_eq_left hk], fun j hj => ?_⟩
  rw [List.length_take] at hj
  obtain ⟨ad, rfl, h1⟩ := hc j (by omega)
  exact ⟨ad, rfl, by rw [h1, List.getElem_take]⟩
set_option maxRecDepth 100000 in
theorem two_cell (ad : Addr) (n : Nat) : ad.add (n + 1) = ⟨(ad.add n).block, (ad.add n).off + 1, none⟩ := by
  unfold Addr.add
  by_cases h : n = 0
  · subst h; simp
  · simp [h, Nat.add_assoc]
set_option maxRecDepth 100000 in
theorem three_cell (ad : Addr) (n : Nat) : ad.add (n + 2) = ⟨(ad.add n).block, (ad.add n).off + 2, none⟩ := by
  unfold Addr.add
  by_cases h : n = 0
  · subst h; simp
  · simp [h, Nat.add_assoc]
end Go.Proofs.Ytnonkhnajloloaa
