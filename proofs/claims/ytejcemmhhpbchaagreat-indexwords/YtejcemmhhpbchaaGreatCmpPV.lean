/- How two pairs compare. -/
import Derived.Test.YtejcemmhhpbchaaGreatPm
import Derived.Test.YtejcemmhhpbchaaGreatOrI
import Derived.Test.YtejcemmhhpbchaaGreatGG
namespace Go.Proofs.YtejcemmhhpbchaaGreat
open Go.RowKit Go.Maps

/-- Below 0: x is ahead of y. -/
def cfP (x y : Int × Int) : Int := orI (ccmpI x.1 y.1) (ccmpI x.2 y.2)
set_option maxRecDepth 100000 in
set_option maxHeartbeats 2000000 in
theorem prclosure_any (x y : Int × Int) (W : World) : Calls Tryz.prog 69 #[.agg #[.int .i64 x.1, .int .i64 x.2], .agg #[.int .i64 y.1, .int .i64 y.2]] W fun e w' => e = .returned (.int .i64 (cfP x y)) ∧ ∃ q os', w' = Sort.grow (W.drewN q) os' := by
  obtain ⟨a, b⟩ := x
  obtain ⟨p, q⟩ := y
  unfold cfP
  simp only
  obtain ⟨w1, hw1⟩ : ∃ w1, w1 = (W.alloc (.cells #[.int .i64 a, .int .i64 b] 37)).alloc (.cells #[.int .i64 p, .int .i64 q] 37) := ⟨_, rfl⟩
  obtain ⟨o, ho⟩ : ∃ o, o = Obj.cells #[.int .i64 (ccmpI a p), .int .i64 (ccmpI b q)] 3 (0, 0) := ⟨_, rfl⟩
  have HG : Hid (∃ q os', (w1.alloc o).drew = Sort.grow (W.drewN q) os') := Lib.hid ⟨1, _, by rw [hw1, Sort.alloc_eq_grow, Sort.alloc_eq_grow, Sort.alloc_eq_grow, Sort.grow_grow, Sort.grow_grow]; rfl⟩
  have u0 : w1.cell? ⟨W.heap.size, 0, none⟩ = some (.int .i64 a) := by rw [hw1]; simp
  have u1 : w1.cell? ⟨W.heap.size, 1, none⟩ = some (.int .i64 b) := by rw [hw1]; simp
  have v0 : w1.cell? ⟨W.heap.size + 1, 0, none⟩ = some (.int .i64 p) := by rw [hw1]; simp
  have v1 : w1.cell? ⟨W.heap.size + 1, 1, none⟩ = some (.int .i64 q) := by rw [hw1]; simp
  have cI := fun x y => ccmpI_any x y w1.drew
  have hs1 : w1.heap.size = W.heap.size + 1 + 1 := by rw [hw1]; simp
  have bb := (Below.refl w1.heap.size w1).alloc (Nat.le_refl _) o
  have x0 : (w1.alloc o).drew.cell? ⟨W.heap.size, 0, none⟩ = some (.int .i64 a) := (bb.cell (by simp; omega)).trans u0
  have x1 : (w1.alloc o).drew.cell? ⟨W.heap.size, 1, none⟩ = some (.int .i64 b) := (bb.cell (by simp; omega)).trans u1
  have y0 : (w1.alloc o).drew.cell? ⟨W.heap.size + 1, 0, none⟩ = some (.int .i64 p) := (bb.cell (by simp; omega)).trans v0
  have y1 : (w1.alloc o).drew.cell? ⟨W.heap.size + 1, 1, none⟩ = some (.int .i64 q) := (bb.cell (by simp; omega)).trans v1
  have cO := or_any (ccmpI a p) (ccmpI b q) w1.heap.size (w1.alloc o).drew (by rw [ho]; show (w1.alloc _).cell? _ = _; simp) (by rw [ho]; show (w1.alloc _).cell? _ = _; simp)
  rw [ho] at cO HG x0 x1 y0 y1
  have hw' := hw1.symm
  clear hw1 bb ho hs1
  go_enter Tryz.func69, Tryz.ntmps69
  go_wp2_with fail
  go_region_held3 (fun w' => w'.cell? ⟨W.heap.size, 0, none⟩ = some (.int .i64 a) ∧ w'.cell? ⟨W.heap.size, 1, none⟩ = some (.int .i64 b) ∧ w'.cell? ⟨W.heap.size + 1, 0, none⟩ = some (.int .i64 p) ∧ w'.cell? ⟨W.heap.size + 1, 1, none⟩ = some (.int .i64 q)) (first | exact ⟨u0, u1, v0, v1⟩ | exact ⟨x0, x1, y0, y1⟩) (first | (go_at_call 61; refine (cI _ _).mono ?_; rintro e w2 ⟨rfl, rfl⟩) | (go_at_call 60; refine cO.mono ?_; rintro e w2 ⟨rfl, rfl⟩))
  all_goals go_wp2
  all_goals go_ret
  all_goals exact ⟨rfl, HG.out⟩
end Go.Proofs.YtejcemmhhpbchaaGreat
