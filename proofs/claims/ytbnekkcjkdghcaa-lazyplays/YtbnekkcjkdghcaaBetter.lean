/- pair.Better. -/
import Derived.Test.YtbnekkcjkdghcaaItem
namespace Go.Proofs.Ytbnekkcjkdghcaa
open Go.RowKit Go.Maps Go.Shelf
open Go.Sort (grow grow_empty grow_grow alloc_eq_grow heap_grow_old)

set_option maxRecDepth 100000 in
theorem Grown.drew {a b : World} (h : Grown a b) : Grown a b.drew := h.drewN 1
set_option maxRecDepth 100000 in
theorem Grown.cell {a b : World} (h : Grown a b) {c i : Nat} {u : Value} (hc : a.cell? ⟨c, i, none⟩ = some u) : b.cell? ⟨c, i, none⟩ = some u := (h.below.cell (show c < a.heap.size from by rw [← add_zero_off c i] at hc; exact block_of_cell hc)).trans hc
set_option maxRecDepth 100000 in
set_option maxHeartbeats 4000000 in
theorem better_any (K : Nat) (v : Value) (b : Option Nat) (J : List Joint) (x y : Item) (w : World) (h : Stab w K v b J) (hJ : J.length ≤ 1000000) (hx : FitsI x) (hy : FitsI y) :
    Calls Try.prog 21 #[.pointer (some ⟨K, 0, none⟩), itemV x, itemV y] w fun e w' => e = .returned (.bool (betterOf J x y)) ∧ Grown w w' := by
  have HX := Lib.hid hx
  have HY := Lib.hid hy
  obtain ⟨p, q, n⟩ := x
  obtain ⟨r, s, m⟩ := y
  unfold itemV betterOf
  simp only
  obtain ⟨wb, hwb⟩ : ∃ wb, wb = (w.alloc (.cells #[.int .i64 p, .int .i64 q, .int .i64 n] 48)).alloc (.cells #[.int .i64 r, .int .i64 s, .int .i64 m] 48) := ⟨_, rfl⟩
  have HGB : Hid (Grown w wb) := Lib.hid (by rw [hwb]; exact ((Grown.refl w).alloc _).alloc _)
  have HB := Lib.hid (h.grown HGB.out)
  have u0 : wb.cell? ⟨w.heap.size, 0, none⟩ = some (.int .i64 p) := by rw [hwb]; simp
  have u1 : wb.cell? ⟨w.heap.size, 1, none⟩ = some (.int .i64 q) := by rw [hwb]; simp
  have u2 : wb.cell? ⟨w.heap.size, 2, none⟩ = some (.int .i64 n) := by rw [hwb]; simp
  have v0 : wb.cell? ⟨w.heap.size + 1, 0, none⟩ = some (.int .i64 r) := by rw [hwb]; simp
  have v1 : wb.cell? ⟨w.heap.size + 1, 1, none⟩ = some (.int .i64 s) := by rw [hwb]; simp
  have v2 : wb.cell? ⟨w.heap.size + 1, 2, none⟩ = some (.int .i64 m) := by rw [hwb]; simp
  have hw' := hwb.symm
  clear h hwb hx hy
  generalize hz : icmp J (p, q, n) (r, s, m) = z
  have HZ := Lib.hid hz
  clear hz
  go_enter Try.func21, Try.ntmps21
  go_wp2_with fail
  go_region_held3 (fun w' => w'.cell? ⟨w.heap.size, 0, none⟩ = some (.int .i64 p) ∧ w'.cell? ⟨w.heap.size, 1, none⟩ = some (.int .i64 q) ∧ w'.cell? ⟨w.heap.size, 2, none⟩ = some (.int .i64 n) ∧ w'.cell? ⟨w.heap.size + 1, 0, none⟩ = some (.int .i64 r) ∧ w'.cell? ⟨w.heap.size + 1, 1, none⟩ = some (.int .i64 s) ∧ w'.cell? ⟨w.heap.size + 1, 2, none⟩ = some (.int .i64 m)) (first | exact ⟨u0, u1, u2, v0, v1, v2⟩ | exact ⟨e0, e1, e2, f0, f1, f2⟩ | exact ⟨g0, g1, g2, k0, k1, k2⟩) (first
    | (go_at_call 37
       refine (betterFirst_any K wb.drew).mono ?_
       rintro e w5 ⟨rfl, hw5⟩
       have HG5 : Hid (Grown wb w5) := Lib.hid (by rw [hw5]; exact (Grown.refl wb).drew.alloc _)
       have HE5 : Hid (Env w5 K v b J wb.drew.heap.size) := Lib.hid (by rw [hw5]; exact env_new (HB.out.grown (Grown.refl wb).drew) hJ)
       have e0 := HG5.out.cell u0
       have e1 := HG5.out.cell u1
       have e2 := HG5.out.cell u2
       have f0 := HG5.out.cell v0
       have f1 := HG5.out.cell v1
       have f2 := HG5.out.cell v2
       clear hw5
       unfold closV)
    | (go_at_call 47
       refine (icmp_any K v b J _ (p, q, n) (r, s, m) _ HE5.out HX.out HY.out).mono ?_
       rintro e w6 ⟨rfl, hg⟩
       have HG6 : Hid (Grown wb w6) := Lib.hid (HG5.out.trans hg)
       have g0 := HG6.out.cell u0
       have g1 := HG6.out.cell u1
       have g2 := HG6.out.cell u2
       have k0 := HG6.out.cell v0
       have k1 := HG6.out.cell v1
       have k2 := HG6.out.cell v2
       clear hg
       rw [HZ.out]))
  all_goals go_wp2
  all_goals go_ret
  all_goals exact ⟨rfl, HGB.out.trans HG6.out⟩
end Go.Proofs.Ytbnekkcjkdghcaa
