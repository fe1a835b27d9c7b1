/- Arguments that are slices, opened. -/
import Derived.Test.YtbacbgpemaldbaaMem
import Derived.SliceStrings
import Derived.ChangeOld
import Derived.WideShapes
namespace Go.Proofs.Ytbacbgpemaldbaa
open Go.ChangeShapes Go.WideShapes Go.RowKit

set_option maxRecDepth 100000 in
theorem Try.cells9 : Try.prog.cellsOf 9 = 1 := by kernel_rfl
set_option maxRecDepth 100000 in
theorem block_of_cell {w : World} {a : Addr} {j : Nat} {u : Value} (h : w.cell? (a.add j) = some u) : a.block < w.heap.size := by
  have hb : (a.add j).block = a.block := by unfold Addr.add; split <;> rfl
  have := World.block_lt_of_cell? w _ h
  rwa [hb] at this
set_option maxRecDepth 100000 in
theorem open_texts {H : Type} {enc : TypeId × Value → H} {W : World} {base : Nat} {v : Value} {d : DataW H} {p : List MemPlace} (ov : Value.okWide Try.prog W .any base 34 v)
    (h : DataW.Trod enc Try.prog W 0 (fun _ => true) true 34 v d p) :
    ∃ P, strsAt W v P ∧ (∀ a n c, v = .slice a n c → n ≤ c) ∧ (P = [] ∨ ∃ els sp, d = .slice els sp ∧ P.length ≤ els.length + sp.length) := by
  obtain ⟨a0, len, cap, rfl⟩ := okWide_slice Try.underlying34 ov
  obtain ⟨fuel, hf⟩ := h
  rcases open_strings Try.underlying34 Try.underlying9 Try.cells9 hf with ⟨hcs, _⟩ | ⟨a, len', cap', ss, hcs, _, hl, hm, hz, hx, hcell, hwf⟩
  · have e : Value.slice a0 len cap = .slice none 0 0 := by simpa [Value.cells] using hcs
    cases e
    exact ⟨[], ⟨none, 0, rfl, fun j hj => by simp at hj⟩, fun a n c e => by cases e; exact Nat.le_refl _, .inl rfl⟩
  · have e : Value.slice a0 len cap = .slice (some a) len' cap' := by simpa [Value.cells] using hcs
    cases e
    have hz' : ss.length = cap := by simpa using hz
    have hlen : ((ss.take len).map fun s : ByteArray => bs s).length = len := by rw [List.length_map, List.length_take]; omega
    refine ⟨(ss.take len).map fun s => bs s, ⟨some a, cap, by rw [hlen], fun j hj => ⟨a, rfl, ?_⟩⟩, fun a n c e => by cases e; exact hl, .inr ?_⟩
    · have hj' : j < ss.length := by omega
      rw [hcell j hj']
      have hg : ss.getD j ByteArray.empty = ss[j] := by simp [List.getD, hj']
      rw [hg]
      unfold tx
      simp only [List.getElem_map, List.getElem_take]
    · have hd : d = .slice (strs (ss.take len)) (strs (ss.drop len)) := by
        have := congrArg Prod.fst hx
        simpa using this
      refine ⟨_, _, hd, ?_⟩
      rw [hlen]
      simp only [strs, List.length_map, List.length_take, List.length_drop]
      omega
set_option maxRecDepth 100000 in
/-- A nil row has no room. -/
theorem open_none {H : Type} {enc : TypeId × Value → H} {W : World} {v : Value} {d : DataW H} {p : List MemPlace} (h : DataW.Trod enc Try.prog W 0 (fun _ => true) true 34 v d p) : ∀ n c, v = .slice none n c → c = 0 := by
  rintro n c rfl
  obtain ⟨fuel, hf⟩ := h
  rcases open_strings Try.underlying34 Try.underlying9 Try.cells9 hf with ⟨hcs, _⟩ | ⟨a, len', cap', ss, hcs, _⟩
  · have e : Value.slice none n c = .slice none 0 0 := by simpa [Value.cells] using hcs
    cases e; rfl
  · simp [Value.cells] at hcs
set_option maxRecDepth 100000 in
theorem add_block (ad : Addr) (j : Nat) : (ad.add j).block = ad.block := by unfold Addr.add; split <;> rfl
/-- A nil row has no room. -/
def nilNone (v : Value) : Prop := ∀ n c, v = .slice none n c → c = 0
set_option maxRecDepth 100000 in
theorem Try.cells3 : Try.prog.cellsOf 3 = 1 := by kernel_rfl
set_option maxRecDepth 100000 in
theorem strs_head {w : World} {a : Option Addr} {n cap k : Nat} {P : List (List UInt8)} (h : strsAt w (.slice a n cap) P) (hk : k ≤ P.length) : strsAt w (.slice a k cap) (P.take k) := by
  obtain ⟨a', cap', e, hc⟩ := h
  cases e
  refine ⟨a, cap, by rw [List.length_take, Nat.min_eq_left hk], fun j hj => ?_⟩
  rw [List.length_take] at hj
  obtain ⟨ad, rfl, h1⟩ := hc j (by omega)
  exact ⟨ad, rfl, by rw [h1, List.getElem_take]⟩
set_option maxRecDepth 100000 in
/-- The texts of an argument are no longer than any text is. -/
theorem open_small {H : Type} {enc : TypeId × Value → H} {W : World} {v : Value} {d : DataW H} {p : List MemPlace} {P : List (List UInt8)} (h : DataW.Trod enc Try.prog W 0 (fun _ => true) true 34 v d p) (hv : strsAt W v P) : ∀ t ∈ P, t.length ≤ 9223372036854775807 := by
  intro t ht
  obtain ⟨j, hj, rfl⟩ := List.mem_iff_getElem.1 ht
  obtain ⟨a0, cap0, rfl, hc⟩ := hv
  obtain ⟨ad, rfl, hcj⟩ := hc j hj
  obtain ⟨fuel, hf⟩ := h
  rcases open_strings Try.underlying34 Try.underlying9 Try.cells9 hf with ⟨hcs, _⟩ | ⟨a, len', cap', ss, hcs, _, hl, hm, hz, hx, hcell, hwf⟩
  · simp [Value.cells] at hcs
  · have e : Value.slice (some ad) P.length cap0 = .slice (some a) len' cap' := by simpa [Value.cells] using hcs
    cases e
    have hz' : ss.length = cap0 := by simpa using hz
    have hj' : j < ss.length := by omega
    have h1 := hcell j hj'
    rw [hcj] at h1
    have hg : ss.getD j ByteArray.empty = ss[j] := by simp [List.getD, hj']
    rw [hg] at h1
    unfold tx at h1
    simp only [Option.some.injEq, Value.string.injEq] at h1
    have h2 := hwf ss[j] (List.getElem_mem hj')
    rw [← h1] at h2
    simpa [ByteArray.size, maxLen] using h2
set_option maxRecDepth 100000 in
theorem two_cell (ad : Addr) (n : Nat) : ad.add (n + 1) = ⟨(ad.add n).block, (ad.add n).off + 1, none⟩ := by
  unfold Addr.add
  by_cases h : n = 0
  · subst h; simp
  · simp [h, Nat.add_assoc]
set_option maxRecDepth 100000 in
theorem three_cell (ad : Addr) (n : Nat) : ad.add (n + 2) = ⟨(ad.add n).block, (ad.add n).off + 2, none⟩ := by
  unfold Addr.add
  by_cases h : n = 0
  · subst h; simp
  · simp [h, Nat.add_assoc]
end Go.Proofs.Ytbacbgpemaldbaa
