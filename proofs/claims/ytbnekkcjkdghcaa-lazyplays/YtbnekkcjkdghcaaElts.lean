/- Rows of pairs, of merges and of texts; a row of pairs as an argument. -/
import Derived.Test.YtbnekkcjkdghcaaSRow
import Derived.Deep.SlicePairs
namespace Go.Proofs.Ytbnekkcjkdghcaa
open Go.ChangeShapes Go.WideShapes Go.RowKit

def pairE : Elt (Int × Int) where
  ty := 41
  sl := 31
  n := 2
  bytes := 16
  zero := .agg #[.int .i64 0, .int .i64 0]
  enc := fun p => [.int .i64 p.1, .int .i64 p.2]
  under := Try.underlying31
  info := by kernel_rfl
  pos := by decide
  small := by decide
  zlen := by kernel_rfl
  len := fun _ => rfl
  one := fun x u hu => by
    simp only [List.mem_cons, List.not_mem_nil, or_false] at hu
    rcases hu with rfl | rfl <;> rfl
def textE : Elt ByteArray where
  ty := 9
  sl := 71
  n := 1
  bytes := 16
  zero := .string ⟨#[]⟩
  enc := fun t => [.string t]
  under := Try.underlying71
  info := by kernel_rfl
  pos := by decide
  small := by decide
  zlen := by kernel_rfl
  len := fun _ => rfl
  one := fun x u hu => by
    simp only [List.mem_cons, List.not_mem_nil, or_false] at hu
    rcases hu with rfl; rfl
set_option maxRecDepth 100000 in
theorem texts_cell {w wr : World} {L : List ByteArray} {ad : Addr} {n cap : Nat} (h : eltsAt textE w (.slice (some ad) n cap) L) (hb : Below w.heap.size w wr) {k : Nat} (hk : k < L.length) : wr.cell? (ad.add k) = some (.string L[k]) := by
  have := elts_at h hb hk 0 _ rfl
  rwa [show textE.n = 1 from rfl, Nat.mul_one, Nat.add_zero] at this
set_option maxRecDepth 100000 in
theorem Try.cells32 : Try.prog.cellsOf 41 = 2 := by kernel_rfl
/-- Pairs of an argument. -/
def FitsP (L : List (Int × Int)) : Prop := ∀ p ∈ L, (-9223372036854775808 ≤ p.1 ∧ p.1 ≤ 9223372036854775807) ∧ (-9223372036854775808 ≤ p.2 ∧ p.2 ≤ 9223372036854775807)
set_option maxRecDepth 100000 in
theorem open_pairs {H : Type} {enc : TypeId × Value → H} {W : World} {base : Nat} {v : Value} {d : DataW H} {p : List MemPlace} (ov : Value.okWide Try.prog W .any base 31 v)
    (h : DataW.Trod enc Try.prog W 0 (fun _ => true) true 31 v d p) : ∃ L, eltsAt pairE W v L ∧ L.length ≤ maxLen ∧ FitsP L ∧ nilNone v ∧ (∀ a n c, v = .slice a n c → n ≤ c) := by
  obtain ⟨a0, len, cap, rfl⟩ := okWide_slice Try.underlying31 ov
  obtain ⟨fuel, hf⟩ := h
  rcases Deep.open_slice_pairs Try.underlying31 Try.underlying41 Try.cells32 rfl rfl Try.cells3 Try.cells3 hf with ⟨hcs, _⟩ | ⟨a, len', cap', m, n, V0, V1, D0, D1, P0, P1, hcs, _, hl, hm, hmm, _, hall⟩
  · have e : Value.slice a0 len cap = .slice none 0 0 := by simpa [Value.cells] using hcs
    cases e
    exact ⟨[], eltsAt.nil W, by simp, fun z hz => by simp at hz, fun n c e => by cases e; rfl, fun a n c e => by cases e; exact Nat.le_refl _⟩
  · have e : Value.slice a0 len cap = .slice (some a) len' cap' := by simpa [Value.cells] using hcs
    cases e
    have hm' : m = cap := by simpa using hmm
    subst hm'
    have each : ∀ i, i < len → ∃ q : Int × Int, V0 i = .int .i64 q.1 ∧ V1 i = .int .i64 q.2 ∧ (-9223372036854775808 ≤ q.1 ∧ q.1 ≤ 9223372036854775807) ∧ (-9223372036854775808 ≤ q.2 ∧ q.2 ≤ 9223372036854775807) := by
      intro i hi
      obtain ⟨_, _, t0, t1⟩ := hall i (by omega)
      obtain ⟨y, e0, _, hy⟩ := DataW.trod_int Try.underlying3 t0
      obtain ⟨z, e1, _, hz⟩ := DataW.trod_int Try.underlying3 t1
      simp only [List.cons.injEq, and_true] at e0 e1
      exact ⟨(y, z), e0, e1, bounds_i64 hy, bounds_i64 hz⟩
    obtain ⟨q, hq⟩ := Deep.choose_lt each
    have hlen : ((List.range len).map q).length = len := by simp
    refine ⟨(List.range len).map q, ⟨some a, m, by rw [hlen], fun j hj => ⟨a, rfl, ?_⟩⟩, by rw [hlen]; omega, ?_, fun n c e => (by cases e), fun a n c e => (by cases e; exact hl)⟩
    · have hj' : j < len := by simpa using hj
      obtain ⟨c0, c1, _, _⟩ := hall j (by omega)
      obtain ⟨q0, q1, _⟩ := hq j hj'
      rw [q0] at c0
      rw [q1] at c1
      have hg : ((List.range len).map q)[j] = q j := by simp
      rw [hg]
      refine ⟨block_of_cell c0, fun i u hu => ?_⟩
      match i, hu with
      | 0, hu => cases hu; exact c0
      | 1, hu => cases hu; exact c1
    · intro p hp
      obtain ⟨i, hi, rfl⟩ := List.mem_map.1 hp
      exact (hq i (by simpa using hi)).2.2
set_option maxRecDepth 100000 in
theorem pairs_at {w wr : World} {L : List (Int × Int)} {ad : Addr} {n cap : Nat} (h : eltsAt pairE w (.slice (some ad) n cap) L) (hb : Below w.heap.size w wr) {k : Nat} (hk : k < L.length) :
    wr.cell? (ad.add (k * 2)) = some (.int .i64 L[k].1) ∧ wr.cell? ⟨(ad.add (k * 2)).block, (ad.add (k * 2)).off + 1, none⟩ = some (.int .i64 L[k].2) := by
  have := elts_at h hb hk
  exact ⟨this 0 _ rfl, by rw [← two_cell]; exact this 1 _ rfl⟩
set_option maxRecDepth 100000 in
/-- Two numbers laid apart, and read again behind what turns nothing that was there. -/
theorem pbox_at {w8 w9 : World} {p q : Int} (hb : Below (w8.alloc (.cells #[.int .i64 p, .int .i64 q] 41)).heap.size (w8.alloc (.cells #[.int .i64 p, .int .i64 q] 41)) w9) : w9.cell? ⟨w8.heap.size, 0, none⟩ = some (.int .i64 p) ∧ w9.cell? ⟨w8.heap.size, 1, none⟩ = some (.int .i64 q) := by
  have hh := heap_alloc_new w8 (.cells #[.int .i64 p, .int .i64 q] 41)
  have hlt := (Array.getElem?_eq_some_iff.1 hh).1
  exact ⟨(hb.cell hlt).trans (by rw [cell_of_row _ _ 0 _ 41 (0, 0) hh]; rfl), (hb.cell hlt).trans (by rw [cell_of_row _ _ 1 _ 41 (0, 0) hh]; rfl)⟩
end Go.Proofs.Ytbnekkcjkdghcaa
