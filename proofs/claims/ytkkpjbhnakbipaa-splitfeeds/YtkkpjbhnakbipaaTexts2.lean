/- An argument that is a slice of texts, opened. -/
import Derived.Test.YtkkpjbhnakbipaaFeedsWalk
import Derived.Test.YtkkpjbhnakbipaaArgs
namespace Go.Proofs.Ytkkpjbhnakbipaa
open Go.ChangeShapes Go.WideShapes Go.RowKit

theorem open_texts {H : Type} {enc : TypeId × Value → H} {W : World} {base : Nat} {v : Value} {d : DataW H} {p : List MemPlace} (ov : Value.okWide Try.prog W .any base 24 v)
    (h : DataW.Trod enc Try.prog W 0 (fun _ => true) true 24 v d p) :
    ∃ P, strsAt W v P ∧ (∀ a n c, v = .slice a n c → n ≤ c) ∧ (P = [] ∨ ∃ els sp, d = .slice els sp ∧ P.length ≤ els.length + sp.length) := by
  obtain ⟨a0, len, cap, rfl⟩ := okWide_slice Try.underlying24 ov
  obtain ⟨fuel, hf⟩ := h
  rcases open_strings Try.underlying24 Try.underlying9 Try.cells9 hf with ⟨hcs, _⟩ | ⟨a, len', cap', ss, hcs, _, hl, hm, hz, hx, hcell, hwf⟩
  · have e : Value.slice a0 len cap = .slice none 0 0 := by simpa [Value.cells] using hcs
    cases e
    exact ⟨[], ⟨none, 0, rfl, fun j hj => by simp at hj⟩, fun a n c e => by cases e; exact Nat.le_refl _, .inl rfl⟩
  · have e : Value.slice a0 len cap = .slice (some a) len' cap' := by simpa [Value.cells] using hcs
    cases e
    have hz' : ss.length = cap := by simpa using hz
    have hlen : ((ss.take len).map fun s : ByteArray => bs s).length = len := by rw [List.length_map, List.length_take]; omega
    refine ⟨(ss.take len).map fun s => bs s, ⟨some a, cap, by rw [hlen], fun j hj => ⟨a, rfl, ?_⟩⟩, fun a n c e => by cases e; exact hl, .inr ?_⟩
    · have hj' : j < ss.length := by omega
      rw [hcell j hj']
      have hg : ss.getD j ByteArray.empty = ss[j] := by simp [List.getD, hj']
      rw [hg]
      unfold tx
      simp only [List.getElem_map, List.getElem_take]
    · have hd : d = .slice (strs (ss.take len)) (strs (ss.drop len)) := by
        have := congrArg Prod.fst hx
        simpa using this
      refine ⟨_, _, hd, ?_⟩
      rw [hlen]
      simp only [strs, List.length_map, List.length_take, List.length_drop]
      omega
end Go.Proofs.Ytkkpjbhnakbipaa
