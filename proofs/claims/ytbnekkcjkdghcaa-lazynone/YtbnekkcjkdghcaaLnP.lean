/- A first entry of any pair: the heap's Push, the queue's Put; nil queues. -/
import Derived.Test.YtbnekkcjkdghcaaLzPop
namespace Go.Proofs.Ytbnekkcjkdghcaa
open Go.RowKit Go.Maps Go.Shelf
open Go.Sort (grow grow_empty grow_grow alloc_eq_grow heap_grow_old)
variable {w w' : World} {K H m : Nat}

set_option maxRecDepth 100000 in
theorem rise_zero (H : Nat) (w : World) : Calls Try.prog 41 #[.pointer (some ⟨H, 0, none⟩), .int .i64 0] w fun e w' => e = .returned (.tuple #[]) ∧ w' = w := by
  go_enter Try.func41, Try.ntmps41
  go_wp2
  refine wp_loop_rounds 1 ?_
  rw [rounds_succ]
  go_wp2
  go_end0
  exact ⟨rfl, rfl⟩
/-- What the first push leaves. -/
def FirstRet (w : World) (H : Nat) (w' : World) : Prop := Kept (fun k => k = H) w w' ∧ ∃ a cap, w'.cell? ⟨H, 1, none⟩ = some (.slice a 1 cap)
set_option maxRecDepth 100000 in
set_option maxHeartbeats 1600000 in
theorem push_first (g : Nat) (lb : Array Value) (x1 x2 x3 x4 x5 x6 : Int) (w : World) (h : w.heap[H]? = some (.cells #[fnV g lb, .slice none 0 0, .int .i64 0, .int .i64 0] 86 (0, 0))) :
    Calls Try.prog 27 #[.pointer (some ⟨H, 0, none⟩), .agg #[.int .i64 x1, .int .i64 x2, .int .i64 x3, .int .i64 x4, .int .i64 x5, .int .i64 x6]] w fun e w' => e = .returned (.tuple #[]) ∧ FirstRet w H w' := by
  obtain ⟨N, hN⟩ : ∃ N, w.heap.size = N := ⟨_, rfl⟩
  have hHN : H < N := by rw [← hN]; exact (Array.getElem?_eq_some_iff.1 h).1
  obtain ⟨wa, hwa⟩ : ∃ wa, w.alloc (.cells #[.int .i64 x1, .int .i64 x2, .int .i64 x3, .int .i64 x4, .int .i64 x5, .int .i64 x6] 61) = wa := ⟨_, rfl⟩
  have hga : Grown w wa := by rw [← hwa]; exact (Grown.refl w).alloc _
  have hna : wa.heap.size = N + 1 := by rw [← hwa, World.size_alloc, hN]
  have hba : wa.heap[N]? = some (.cells #[.int .i64 x1, .int .i64 x2, .int .i64 x3, .int .i64 x4, .int .i64 x5, .int .i64 x6] 61 (0, 0)) := by rw [← hwa, ← hN]; exact heap_alloc_new w _
  obtain ⟨wc, hwc⟩ : ∃ wc, wa.alloc (.cells #[.int .i64 x1, .int .i64 x2, .int .i64 x3, .int .i64 x4, .int .i64 x5, .int .i64 x6] 61) = wc := ⟨_, rfl⟩
  have hgc : Grown w wc := by rw [← hwc]; exact hga.alloc _
  have hbc : wc.heap[N]? = some (.cells #[.int .i64 x1, .int .i64 x2, .int .i64 x3, .int .i64 x4, .int .i64 x5, .int .i64 x6] 61 (0, 0)) := by rw [← hwc]; exact (Below.heap_alloc _ _ _ (by omega)).trans hba
  have hHa := (hga.below.block H (by omega)).trans h
  have hHc := (hgc.below.block H (by omega)).trans h
  have hone : eltsAt entE wc.drew (.slice (some ⟨wa.heap.size, 0, none⟩) 1 1) [(x1, x2, x3, x4, x5, x6)] := by rw [← hwc]; exact (one_elt entE wa (x1, x2, x3, x4, x5, x6)).drew 1
  rw [hna] at hone
  have a0 : wa.cell? ⟨N, 0, none⟩ = some (.int .i64 x1) := by rw [cell_of_row wa N _ _ 61 (0, 0) hba]; rfl
  have a1 : wa.cell? ⟨N, 1, none⟩ = some (.int .i64 x2) := by rw [cell_of_row wa N _ _ 61 (0, 0) hba]; rfl
  have a2 : wa.cell? ⟨N, 2, none⟩ = some (.int .i64 x3) := by rw [cell_of_row wa N _ _ 61 (0, 0) hba]; rfl
  have a3 : wa.cell? ⟨N, 3, none⟩ = some (.int .i64 x4) := by rw [cell_of_row wa N _ _ 61 (0, 0) hba]; rfl
  have a4 : wa.cell? ⟨N, 4, none⟩ = some (.int .i64 x5) := by rw [cell_of_row wa N _ _ 61 (0, 0) hba]; rfl
  have a5 : wa.cell? ⟨N, 5, none⟩ = some (.int .i64 x6) := by rw [cell_of_row wa N _ _ 61 (0, 0) hba]; rfl
  have e0 : wc.cell? ⟨N, 0, none⟩ = some (.int .i64 x1) := by rw [cell_of_row wc N _ _ 61 (0, 0) hbc]; rfl
  have e1 : wc.cell? ⟨N, 1, none⟩ = some (.int .i64 x2) := by rw [cell_of_row wc N _ _ 61 (0, 0) hbc]; rfl
  have e2 : wc.cell? ⟨N, 2, none⟩ = some (.int .i64 x3) := by rw [cell_of_row wc N _ _ 61 (0, 0) hbc]; rfl
  have e3 : wc.cell? ⟨N, 3, none⟩ = some (.int .i64 x4) := by rw [cell_of_row wc N _ _ 61 (0, 0) hbc]; rfl
  have e4 : wc.cell? ⟨N, 4, none⟩ = some (.int .i64 x5) := by rw [cell_of_row wc N _ _ 61 (0, 0) hbc]; rfl
  have e5 : wc.cell? ⟨N, 5, none⟩ = some (.int .i64 x6) := by rw [cell_of_row wc N _ _ 61 (0, 0) hbc]; rfl
  have c0 : wa.cell? ⟨H, 0, none⟩ = some (fnV g lb) := by rw [cell_of_row wa H _ _ 86 (0, 0) hHa]; rfl
  have c1 : wa.cell? ⟨H, 1, none⟩ = some (.slice none 0 0) := by rw [cell_of_row wa H _ _ 86 (0, 0) hHa]; rfl
  have c2 : wa.cell? ⟨H, 2, none⟩ = some (.int .i64 0) := by rw [cell_of_row wa H _ _ 86 (0, 0) hHa]; rfl
  have c3 : wa.cell? ⟨H, 3, none⟩ = some (.int .i64 0) := by rw [cell_of_row wa H _ _ 86 (0, 0) hHa]; rfl
  have d0 : wc.cell? ⟨H, 0, none⟩ = some (fnV g lb) := by rw [cell_of_row wc H _ _ 86 (0, 0) hHc]; rfl
  have d1 : wc.cell? ⟨H, 1, none⟩ = some (.slice none 0 0) := by rw [cell_of_row wc H _ _ 86 (0, 0) hHc]; rfl
  have d2 : wc.cell? ⟨H, 2, none⟩ = some (.int .i64 0) := by rw [cell_of_row wc H _ _ 86 (0, 0) hHc]; rfl
  have d3 : wc.cell? ⟨H, 3, none⟩ = some (.int .i64 0) := by rw [cell_of_row wc H _ _ 86 (0, 0) hHc]; rfl
  have hff := Try.isFn g lb
  have HHC := Lib.hid hHc; have HGC := Lib.hid hgc; have HONE := Lib.hid hone
  clear h hga hgc hba hbc hHa hHc hone
  go_enter Try.func27, Try.ntmps27
  go_wp2
  go_region_law
    (first | (refine step_append_elts entE rfl (.tmp 17) (.tmp 19) rfl 0 (.slice none 0 0) (.slice (some ⟨N + 1, 0, none⟩) 1 1) [] [(x1, x2, x3, x4, x5, x6)] rfl rfl (ownE.nil _ _) HONE.out (someNone _ _ _) (by simp) (Nat.zero_le _) ?_; intro r w4 ho4 hg4 hr4; rw [List.nil_append] at ho4; obtain ⟨ra, rc, rfl, _⟩ := ho4.form; rw [List.length_singleton]; have hH4 := (hg4.block H (Array.getElem?_eq_some_iff.1 HHC.out).1 (by simp [Value.ownBlock])).trans HHC.out; obtain ⟨z0, zf⟩ : w4.cell? ⟨H, 1, none⟩ = some (.slice none 0 0) ∧ w4.frozen? ⟨H, 1, none⟩ = false := ⟨by rw [cell_of_row w4 H 1 _ 86 (0, 0) hH4]; rfl, Lib.frozen_of_heap hH4 _⟩; have HH4 := Lib.hid hH4; have HG4 := Lib.hid hg4; clear ho4 hg4 hr4 hH4))
  all_goals (
    obtain ⟨w5, hw5⟩ : ∃ w5, w4.setCell ⟨H, 1, none⟩ (.slice ra 1 rc) = w5 := ⟨_, rfl⟩
    have hb5 := heap_setCell_at HH4.out (i := 1) (.slice ra 1 rc)
    rw [hw5] at hb5 ⊢
    obtain ⟨w6, hw6⟩ : ∃ w6, w5.setCell ⟨H, 2, none⟩ (.int .i64 1) = w6 := ⟨_, rfl⟩
    have hb6 := heap_setCell_at hb5 (i := 2) (.int .i64 1)
    rw [hw6] at hb6
    obtain ⟨w7, hw7⟩ : ∃ w7, w6.setCell ⟨H, 3, none⟩ (.int .i64 1) = w7 := ⟨_, rfl⟩
    have hb7 := heap_setCell_at hb6 (i := 3) (.int .i64 1)
    rw [hw7] at hb7
    have f2 : w5.cell? ⟨H, 2, none⟩ = some (.int .i64 0) := by rw [cell_of_row w5 H _ _ 86 (0, 0) hb5]; rfl
    have f3 : w5.frozen? ⟨H, 2, none⟩ = false := Lib.frozen_of_heap hb5 _
    have k1 : w6.cell? ⟨H, 1, none⟩ = some (.slice ra 1 rc) := by rw [cell_of_row w6 H _ _ 86 (0, 0) hb6]; rfl
    have k3 : w6.cell? ⟨H, 3, none⟩ = some (.int .i64 0) := by rw [cell_of_row w6 H _ _ 86 (0, 0) hb6]; rfl
    have k4 : w6.frozen? ⟨H, 3, none⟩ = false := Lib.frozen_of_heap hb6 _
    have m1 : w7.cell? ⟨H, 1, none⟩ = some (.slice ra 1 rc) := by rw [cell_of_row w7 H _ _ 86 (0, 0) hb7]; rfl
    have HK : Hid (FirstRet w H w7.drew) := Lib.hid ⟨by
      rw [← hw7, ← hw6, ← hw5]
      exact (((((Kept.of_below (S := fun k => k = H) HGC.out.below (Nat.le_refl _)).drew.grown HG4.out fun k e => by simp [Value.ownBlock] at e).setCell ⟨H, 1, none⟩ _ fun _ => rfl).setCell ⟨H, 2, none⟩ _ fun _ => rfl).setCell ⟨H, 3, none⟩ _ fun _ => rfl).drew, ra, rc, m1⟩
    have hmx : max (0 : Int) 1 = 1 := by decide
    have hwr : IntKind.i64.wrap ((1 : Int) - 1) = 0 := by decide
    have cR := rise_zero H w7.drew
    clear hb5 hb6 hb7
    go_wp2
    go_region
    go_wp2_with fail
    refine cR.mono ?_
    rintro e w8 ⟨rfl, rfl⟩
    go_wp2
    go_end0
    exact ⟨rfl, HK.out⟩)
end Go.Proofs.Ytbnekkcjkdghcaa
