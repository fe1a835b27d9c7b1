/- A slice of numbers of 16 bits, as an argument. -/
import Derived.Test.YtikdhlpmoldijaaArgs
namespace Go.Proofs.Ytikdhlpmoldijaa
open Go.ChangeShapes Go.WideShapes Go.RowKit

theorem Try.cells43 : Try.prog.cellsOf 43 = 1 := by kernel_rfl
/-- The slice value v reads as the numbers Z of 16 bits. -/
def u16sAt (w : World) (v : Value) (Z : List Int) : Prop :=
  ∃ a cap, v = .slice a Z.length cap ∧ ∀ j (h : j < Z.length), ∃ ad, a = some ad ∧ ad.block < w.heap.size ∧ w.cell? (ad.add j) = some (.int .u16 Z[j]) ∧ 0 ≤ Z[j] ∧ Z[j] ≤ 65535
theorem open_u16 {H : Type} {enc : TypeId × Value → H} {W : World} {base : Nat} {v : Value} {d : DataW H} {p : List MemPlace} (ov : Value.okWide Try.prog W .any base 42 v)
    (h : DataW.Trod enc Try.prog W 0 (fun _ => true) true 42 v d p) : ∃ Z, u16sAt W v Z ∧ Z.length ≤ maxLen := by
  obtain ⟨a0, len, cap, rfl⟩ := okWide_slice Try.underlying42 ov
  obtain ⟨fuel, hf⟩ := h
  rcases open_ints Try.underlying42 Try.underlying43 Try.cells43 hf with ⟨hcs, _⟩ | ⟨a, len', cap', zs, hcs, _, hl, hm, hz, _, hcell, hwf⟩
  · have e : Value.slice a0 len cap = .slice none 0 0 := by simpa [Value.cells] using hcs
    cases e
    exact ⟨[], ⟨none, 0, rfl, fun j hj => by simp at hj⟩, by simp⟩
  · have e : Value.slice a0 len cap = .slice (some a) len' cap' := by simpa [Value.cells] using hcs
    cases e
    have hz' : zs.length = cap := by simpa using hz
    have hlen : (zs.take len).length = len := by rw [List.length_take]; omega
    refine ⟨zs.take len, ⟨some a, cap, by rw [hlen], fun j hj => ⟨a, rfl, ?_⟩⟩, by omega⟩
    have hj' : j < zs.length := by omega
    have hc := hcell j hj'
    have hg : zs.getD j 0 = (zs.take len)[j] := by simp [List.getD, hj']
    rw [hg] at hc
    obtain ⟨b0, b1⟩ := bounds_u16 (hwf (zs.take len)[j] (List.mem_of_mem_take (List.getElem_mem hj)))
    exact ⟨block_of_cell hc, hc, b0, b1⟩
end Go.Proofs.Ytikdhlpmoldijaa
