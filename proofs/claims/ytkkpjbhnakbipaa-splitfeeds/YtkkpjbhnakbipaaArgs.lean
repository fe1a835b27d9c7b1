/- The arguments that are slices, opened. -/
import Derived.Test.YtkkpjbhnakbipaaCutsWalk
import Derived.SliceStrings
import Derived.ChangeOld
import Derived.WideShapes
namespace Go.Proofs.Ytkkpjbhnakbipaa
open Go.ChangeShapes Go.WideShapes Go.RowKit

theorem Try.cells41 : Try.prog.cellsOf 41 = 1 := by kernel_rfl
theorem Try.cells9 : Try.prog.cellsOf 9 = 1 := by kernel_rfl

theorem block_of_cell {w : World} {a : Addr} {j : Nat} {u : Value} (h : w.cell? (a.add j) = some u) : a.block < w.heap.size := by
  have hb : (a.add j).block = a.block := by unfold Addr.add; split <;> rfl
  have := World.block_lt_of_cell? w _ h
  rwa [hb] at this

theorem open_u16 {H : Type} {enc : TypeId × Value → H} {W : World} {base : Nat} {v : Value} {d : DataW H} {p : List MemPlace} (ov : Value.okWide Try.prog W .any base 40 v)
    (h : DataW.Trod enc Try.prog W 0 (fun _ => true) true 40 v d p) : ∃ Z, u16sAt W v Z ∧ Z.length ≤ maxLen := by
  obtain ⟨a0, len, cap, rfl⟩ := okWide_slice Try.underlying40 ov
  obtain ⟨fuel, hf⟩ := h
  rcases open_ints Try.underlying40 Try.underlying41 Try.cells41 hf with ⟨hcs, _⟩ | ⟨a, len', cap', zs, hcs, _, hl, hm, hz, _, hcell, hwf⟩
  · have e : Value.slice a0 len cap = .slice none 0 0 := by simpa [Value.cells] using hcs
    cases e
    exact ⟨[], ⟨none, 0, rfl, fun j hj => by simp at hj⟩, by simp⟩
  · have e : Value.slice a0 len cap = .slice (some a) len' cap' := by simpa [Value.cells] using hcs
    cases e
    have hz' : zs.length = cap := by simpa using hz
    have hlen : (zs.take len).length = len := by rw [List.length_take]; omega
    refine ⟨zs.take len, ⟨some a, cap, by rw [hlen], fun j hj => ⟨a, rfl, ?_⟩⟩, by omega⟩
    have hj' : j < zs.length := by omega
    have hc := hcell j hj'
    have hg : zs.getD j 0 = (zs.take len)[j] := by simp [List.getD, hj']
    rw [hg] at hc
    obtain ⟨b0, b1⟩ := bounds_u16 (hwf (zs.take len)[j] (List.mem_of_mem_take (List.getElem_mem hj)))
    exact ⟨block_of_cell hc, hc, b0, b1⟩
end Go.Proofs.Ytkkpjbhnakbipaa
