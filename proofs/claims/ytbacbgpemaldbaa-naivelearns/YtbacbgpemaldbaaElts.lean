/- Rows of pairs, of merges and of texts; a row of pairs as an argument. -/
import Derived.Test.YtbacbgpemaldbaaSRow
import Derived.Deep.SlicePairs
namespace Go.Proofs.Ytbacbgpemaldbaa
open Go.ChangeShapes Go.WideShapes Go.RowKit

def mergeE : Elt (ByteArray × ByteArray) where
  ty := 33
  sl := 25
  n := 2
  bytes := 32
  zero := .agg #[.string ⟨#[]⟩, .string ⟨#[]⟩]
  enc := fun p => [.string p.1, .string p.2]
  under := Try.underlying25
  info := by kernel_rfl
  pos := by decide
  small := by decide
  zlen := by kernel_rfl
  len := fun _ => rfl
  one := fun x u hu => by
    simp only [List.mem_cons, List.not_mem_nil, or_false] at hu
    rcases hu with rfl | rfl <;> rfl
def textE : Elt ByteArray where
  ty := 9
  sl := 34
  n := 1
  bytes := 16
  zero := .string ⟨#[]⟩
  enc := fun t => [.string t]
  under := Try.underlying34
  info := by kernel_rfl
  pos := by decide
  small := by decide
  zlen := by kernel_rfl
  len := fun _ => rfl
  one := fun x u hu => by
    simp only [List.mem_cons, List.not_mem_nil, or_false] at hu
    rcases hu with rfl; rfl
set_option maxRecDepth 100000 in
theorem texts_cell {w wr : World} {L : List ByteArray} {ad : Addr} {n cap : Nat} (h : eltsAt textE w (.slice (some ad) n cap) L) (hb : Below w.heap.size w wr) {k : Nat} (hk : k < L.length) : wr.cell? (ad.add k) = some (.string L[k]) := by
  have := elts_at h hb hk 0 _ rfl
  rwa [show textE.n = 1 from rfl, Nat.mul_one, Nat.add_zero] at this
/-- Pairs of an argument. -/
def FitsP (L : List (Int × Int)) : Prop := ∀ p ∈ L, (-9223372036854775808 ≤ p.1 ∧ p.1 ≤ 9223372036854775807) ∧ (-9223372036854775808 ≤ p.2 ∧ p.2 ≤ 9223372036854775807)
set_option maxRecDepth 100000 in
theorem merges_at {w wr : World} {L : List (ByteArray × ByteArray)} {ad : Addr} {n cap : Nat} (h : eltsAt mergeE w (.slice (some ad) n cap) L) (hb : Below w.heap.size w wr) {k : Nat} (hk : k < L.length) :
    wr.cell? (ad.add (k * 2)) = some (.string L[k].1) ∧ wr.cell? ⟨(ad.add (k * 2)).block, (ad.add (k * 2)).off + 1, none⟩ = some (.string L[k].2) := by
  have := elts_at h hb hk
  exact ⟨this 0 _ rfl, by rw [← two_cell]; exact this 1 _ rfl⟩
end Go.Proofs.Ytbacbgpemaldbaa
