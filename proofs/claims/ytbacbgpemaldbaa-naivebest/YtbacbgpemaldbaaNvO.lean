/- NaiveBest's arguments, opened: rows of rows of texts, a row of numbers, a merge. -/
import Derived.Test.YtbacbgpemaldbaaNvE
import Derived.Deep.Slices
import Derived.Lib.SmallJoins
namespace Go.Proofs.Ytbacbgpemaldbaa
open Go.ChangeShapes Go.WideShapes Go.RowKit

set_option maxRecDepth 100000 in
theorem open_textrow {H : Type} {enc : TypeId × Value → H} {W : World} {v : Value} {fuel : Nat} {x : DataW H × List MemPlace} (hf : DataW.trod enc Try.prog W 0 (fun _ => true) true fuel 34 [v] = some x) :
    ∃ q : Hs × List ByteArray, v = hsV q.1 ∧ eltsAt textE W v q.2 ∧ q.2.length ≤ maxLen ∧ (∀ t ∈ q.2, t.size ≤ maxLen) ∧ nilNone v := by
  rcases open_strings Try.underlying34 Try.underlying9 Try.cells9 hf with ⟨hcs, _⟩ | ⟨a, len, cap, ss, hcs, _, hl, hm, hz, hx, hcell, hwf⟩
  · obtain rfl : v = .slice none 0 0 := by simpa using hcs
    exact ⟨((none, 0, 0), []), rfl, eltsAt.nil W, by simp, fun t ht => by simp at ht, fun n c e => by cases e; rfl⟩
  · obtain rfl : v = .slice (some a) len cap := by simpa using hcs
    have hz' : ss.length = cap := by simpa using hz
    have hlen : (ss.take len).length = len := by rw [List.length_take]; omega
    have helts : eltsAt textE W (.slice (some a) len cap) (ss.take len) := by
      refine ⟨some a, cap, by rw [hlen], fun j hj => ⟨a, rfl, ?_⟩⟩
      have hj' : j < ss.length := by omega
      have hc := hcell j hj'
      have hg : ss.getD j ByteArray.empty = (ss.take len)[j] := by simp [List.getD, hj']
      rw [hg] at hc
      refine ⟨block_of_cell hc, fun i u hu => ?_⟩
      match i, hu with
      | 0, hu =>
        simp only [textE, List.getElem?_cons_zero, Option.some.injEq] at hu
        rw [← hu, show j * textE.n + 0 = j by show j * 1 + 0 = j; omega]
        exact hc
      | i + 1, hu => simp [textE] at hu
    exact ⟨((some a, len, cap), ss.take len), rfl, helts, by show (ss.take len).length ≤ _; rw [hlen]; omega, fun t ht => hwf t (List.mem_of_mem_take ht), fun n c e => by cases e⟩
set_option maxRecDepth 100000 in
theorem open_rows {H : Type} {enc : TypeId × Value → H} {W : World} {base : Nat} {v : Value} {d : DataW H} {p : List MemPlace} (ov : Value.okWide Try.prog W .any base 30 v)
    (h : DataW.Trod enc Try.prog W 0 (fun _ => true) true 30 v d p) : ∃ L, rowsT W v L ∧ L.length ≤ maxLen ∧ ∀ X ∈ L, X.length ≤ maxLen ∧ ∀ t ∈ X, t.size ≤ maxLen := by
  obtain ⟨a0, len0, cap0, rfl⟩ := okWide_slice Try.underlying30 ov
  obtain ⟨fuel, hf⟩ := h
  rcases Go.Deep.open_slice1 Try.underlying30 (by kernel_rfl) hf with ⟨hcs, _⟩ | ⟨a, len, cap, m, n, V, D, Pl, hcs, _, hl, hm, hmm, _, hall⟩
  · have e : Value.slice a0 len0 cap0 = .slice none 0 0 := by simpa [Value.cells] using hcs
    cases e
    exact ⟨[], ⟨[], rfl, eltsAt.nil W, fun i hi => by simp at hi⟩, by simp, fun X hX => by simp at hX⟩
  · have e : Value.slice a0 len0 cap0 = .slice (some a) len cap := by simpa [Value.cells] using hcs
    cases e
    have hm' : m = cap0 := by simpa using hmm
    subst hm'
    obtain ⟨q, hq⟩ := Go.Deep.choose_lt (α := Hs × List ByteArray) (p := fun i q => W.cell? (a.add i) = some (hsV q.1) ∧ eltsAt textE W (hsV q.1) q.2 ∧ q.2.length ≤ maxLen ∧ (∀ t ∈ q.2, t.size ≤ maxLen) ∧ nilNone (hsV q.1)) (n := len0) (fun i hi => by
      obtain ⟨h1, h2⟩ := hall i (by omega)
      obtain ⟨q, e, a1, a2, a3, a4⟩ := open_textrow h2
      rw [e] at h1 a1 a4
      exact ⟨q, h1, a1, a2, a3, a4⟩)
    have hlen : ((List.range len0).map fun i => (q i).1).length = len0 := by simp
    refine ⟨(List.range len0).map fun i => (q i).2, ⟨(List.range len0).map fun i => (q i).1, by simp, ⟨some a, m, by rw [hlen], fun j hj => ⟨a, rfl, ?_⟩⟩, fun i h1 h2 => ?_⟩, by simp; omega, fun X hX => ?_⟩
    · have hj' : j < len0 := by simpa using hj
      obtain ⟨c0, _⟩ := hq j hj'
      have hg : ((List.range len0).map fun i => (q i).1)[j] = (q j).1 := by simp
      rw [hg]
      refine ⟨block_of_cell c0, fun i u hu => ?_⟩
      match i, hu with
      | 0, hu =>
        simp only [slTE, List.getElem?_cons_zero, Option.some.injEq] at hu
        rw [← hu, show j * slTE.n + 0 = j by show j * 1 + 0 = j; omega]
        exact c0
      | i + 1, hu => simp [slTE] at hu
    · have hi : i < len0 := by simpa using h1
      obtain ⟨_, a1, _, _, a4⟩ := hq i hi
      simp only [List.getElem_map, List.getElem_range]
      exact ⟨a1, a4⟩
    · obtain ⟨i, hi, rfl⟩ := List.mem_map.1 hX
      obtain ⟨_, _, a2, a3, _⟩ := hq i (List.mem_range.1 hi)
      exact ⟨a2, a3⟩
set_option maxRecDepth 100000 in
theorem open_nums {H : Type} {enc : TypeId × Value → H} {W : World} {base : Nat} {v : Value} {d : DataW H} {p : List MemPlace} (ov : Value.okWide Try.prog W .any base 31 v)
    (h : DataW.Trod enc Try.prog W 0 (fun _ => true) true 31 v d p) : ∃ L, eltsAt intE W v L ∧ L.length ≤ maxLen ∧ (∀ c ∈ L, FitsB c) ∧ nilNone v ∧ ∀ a n c, v = .slice a n c → n ≤ c := by
  obtain ⟨a0, len, cap, rfl⟩ := okWide_slice Try.underlying31 ov
  obtain ⟨fuel, hf⟩ := h
  rcases open_ints Try.underlying31 Try.underlying3 Try.cells3 hf with ⟨hcs, _⟩ | ⟨a, len', cap', zs, hcs, _, hl, hm, hz, _, hcell, hwf⟩
  · have e : Value.slice a0 len cap = .slice none 0 0 := by simpa [Value.cells] using hcs
    cases e
    exact ⟨[], eltsAt.nil W, by simp, fun z hz => (by simp at hz), fun n c e => (by cases e; rfl), fun a n c e => by cases e; exact Nat.le_refl _⟩
  · have e : Value.slice a0 len cap = .slice (some a) len' cap' := by simpa [Value.cells] using hcs
    cases e
    have hz' : zs.length = cap := by simpa using hz
    have hlen : (zs.take len).length = len := by rw [List.length_take]; omega
    refine ⟨zs.take len, ⟨some a, cap, by rw [hlen], fun j hj => ⟨a, rfl, ?_⟩⟩, by rw [hlen]; omega, fun z hz => bounds_i64 (hwf z (List.mem_of_mem_take hz)), fun n c e => (by cases e), fun a n c e => by cases e; omega⟩
    have hj' : j < zs.length := by omega
    have hc := hcell j hj'
    have hg : zs.getD j 0 = (zs.take len)[j] := by simp [List.getD, hj']
    rw [hg] at hc
    refine ⟨block_of_cell hc, fun i u hu => ?_⟩
    match i, hu with
    | 0, hu =>
      simp only [intE, List.getElem?_cons_zero, Option.some.injEq] at hu
      rw [← hu, show j * intE.n + 0 = j by show j * 1 + 0 = j; omega]
      exact hc
    | i + 1, hu => simp [intE] at hu
set_option maxRecDepth 100000 in
theorem open_merge {H : Type} {enc : TypeId × Value → H} {W : World} {base : Nat} {v : Value} {d : DataW H} {p : List MemPlace} (ov : Value.okWide Try.prog W .any base 33 v)
    (h : DataW.Trod enc Try.prog W 0 (fun _ => true) true 33 v d p) : ∃ a b : ByteArray, v = .agg #[.string a, .string b] ∧ a.size ≤ maxLen ∧ b.size ≤ maxLen := by
  obtain ⟨v0, v1, y0, y1, n, rfl, _, _, t0, t1⟩ := Joins.open_agg2 Try.underlying33 (by kernel_rfl) (by kernel_rfl) ov h
  obtain ⟨a, e0, _, ha⟩ := DataW.trod_string Try.underlying9 t0
  obtain ⟨b, e1, _, hb⟩ := DataW.trod_string Try.underlying9 t1
  simp only [List.cons.injEq, and_true] at e0 e1
  exact ⟨a, b, by rw [e0, e1], ha, hb⟩
end Go.Proofs.Ytbacbgpemaldbaa
