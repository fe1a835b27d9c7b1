/- Changes as a row that is read. -/
import Derived.Test.YtejcemmhhpbchaaGreatChg
import Derived.Test.YtejcemmhhpbchaaGreatGG
namespace Go.Proofs.YtejcemmhhpbchaaGreat
open Go.RowKit

def FitsCh (x : Chg) : Prop := FitsPr x.1 ∧ FitsZ x.2
set_option maxRecDepth 100000 in
theorem cell_add (ad : Addr) (n j : Nat) (hj : 0 < j) : ad.add (n + j) = ⟨(ad.add n).block, (ad.add n).off + j, none⟩ := by
  unfold Addr.add
  by_cases h : n = 0
  · subst h; simp; omega
  · have : ¬ n + j = 0 := by omega
    simp [h, Nat.add_assoc]
set_option maxRecDepth 100000 in
theorem chgs_at {w wr : World} {L : List Chg} {ad : Addr} {n cap : Nat} (h : eltsAt chgE w (.slice (some ad) n cap) L) (hb : Below w.heap.size w wr) {k : Nat} (hk : k < L.length) :
    wr.cell? (ad.add (k * 3)) = some (.int .i64 L[k].1.1) ∧ wr.cell? ⟨(ad.add (k * 3)).block, (ad.add (k * 3)).off + 1, none⟩ = some (.int .i64 L[k].1.2) ∧ wr.cell? ⟨(ad.add (k * 3)).block, (ad.add (k * 3)).off + 2, none⟩ = some (.int .i64 L[k].2) := by
  have := elts_at h hb hk
  refine ⟨this 0 _ rfl, ?_, ?_⟩
  · rw [← cell_add ad (k * 3) 1 (by omega)]; exact this 1 _ rfl
  · rw [← cell_add ad (k * 3) 2 (by omega)]; exact this 2 _ rfl
end Go.Proofs.YtejcemmhhpbchaaGreat
