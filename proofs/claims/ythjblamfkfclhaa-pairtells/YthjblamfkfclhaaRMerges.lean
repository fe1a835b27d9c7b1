/- Merges of the document's own table. -/
import Derived.Test.YthjblamfkfclhaaRJoin
import Derived.Test.YthjblamfkfclhaaRJoin
import Derived.BigQuiet
namespace Go.Proofs.Ythjblamfkfclhaa
open Go.RowKit Go.Maps

/-- What is read of the table at one merge. -/
theorem six_cells {w wx : World} {base K gt gp N cap cp : Nat} {J : List Joint} (h : Rtab w base K (.slice (some ⟨gt, 0, none⟩) N cap) (.slice (some ⟨gp, 0, none⟩) J.length cp) J) (hb : Below w.heap.size w wx) {k i j : Nat} (hk : k < J.length) (hi : i < (textsOf J).length) (hj : j < (textsOf J).length)
    (h1 : J[k].2.1 = (i : Int)) (h2 : J[k].2.2 = (j : Int)) :
    wx.cell? ⟨K, 0, none⟩ = some (.slice (some ⟨gt, 0, none⟩) N cap) ∧ wx.cell? ⟨K, 1, none⟩ = some (.slice (some ⟨gp, 0, none⟩) J.length cp) ∧ wx.cell? ⟨gp, k * 2, none⟩ = some (.int .i64 (i : Int)) ∧ wx.cell? ⟨gp, k * 2 + 1, none⟩ = some (.int .i64 (j : Int)) ∧
    wx.cell? ⟨gt, i, none⟩ = some (.string (txtOf J (i : Int))) ∧ wx.cell? ⟨gt, j, none⟩ = some (.string (txtOf J (j : Int))) := by
  obtain ⟨c0, c1, _, _⟩ := rcell (h.below hb).cells
  have hk' : k < (J.map (·.2)).length := by simpa using hk
  have hp := elts_at h.pairs.reads hb hk'
  have e : (J.map (·.2))[k] = J[k].2 := by simp
  have p0 := hp 0 (.int .i64 (i : Int)) (by rw [e, ← h1]; rfl)
  have p1 := hp 1 (.int .i64 (j : Int)) (by rw [e, ← h2]; rfl)
  rw [add_zero_off] at p0 p1
  have x := texts_cell h.texts.reads hb hi
  have y := texts_cell h.texts.reads hb hj
  rw [add_zero_off] at x y
  have ex := txt_there (J := J) (id := (i : Int)) (by omega) (by simpa using hi)
  have ey := txt_there (J := J) (id := (j : Int)) (by omega) (by simpa using hj)
  simp only [Int.toNat_natCast] at ex ey
  rw [← ex] at x
  rw [← ey] at y
  exact ⟨c0, c1, p0, p1, x, y⟩
end Go.Proofs.Ythjblamfkfclhaa
