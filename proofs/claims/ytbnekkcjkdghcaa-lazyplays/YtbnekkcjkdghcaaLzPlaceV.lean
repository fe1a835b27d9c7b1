/- Where an entry of a queue is placed. -/
import Derived.Test.YtbnekkcjkdghcaaLzObjV
namespace Go.Proofs.Ytbnekkcjkdghcaa
open Go.RowKit Go.Maps Go.Shelf
open Go.Sort (grow grow_empty grow_grow alloc_eq_grow heap_grow_old)
variable {w w' : World} {K T H c m : Nat} {v : Value} {A : List Ent} {hu hk : Int} {tv : Value} {tb : Option Nat} {J : List Joint} {q q' : Qm}

def presentOf (J : List Joint) (id : Int) : Int := if thereOf J id = true then id else -1
def placeOf (J : List Joint) (x : Item) : Ent := (x.1, x.2.1, x.2.2, presentOf J x.1, presentOf J x.2.1, x.2.2)
set_option maxRecDepth 100000 in
theorem place_there {J : List Joint} {x : Item} (h1 : thereOf J x.1 = true) (h2 : thereOf J x.2.1 = true) : placeOf J x = entOf x := by
  unfold placeOf presentOf entOf
  rw [if_pos h1, if_pos h2]
/-- What the queue's box says of its table. -/
structure LzT (w : World) (K T : Nat) (tv : Value) (tb : Option Nat) (J : List Joint) : Prop where
  cell : w.cell? ⟨K, 0, none⟩ = some (.pointer (some ⟨T, 0, none⟩))
  tab : Stab w T tv tb J
  few : J.length ≤ 1000000
set_option maxRecDepth 100000 in
theorem LzT.grown (h : LzT w K T tv tb J) (hg : Grown w w') : LzT w' K T tv tb J := ⟨hg.cell h.cell, h.tab.grown hg, h.few⟩
set_option maxRecDepth 100000 in
theorem LzIn.tee (h : LzIn w K T H c m v A hu hk tv tb J q) : LzT w K T tv tb J := ⟨h.cells.1, h.env.tab, h.env.few⟩
set_option maxRecDepth 100000 in
set_option maxHeartbeats 1000000 in
theorem present_any (id : Int) (h : LzT w K T tv tb J) (hf : FitsN id) : Calls Try.prog 42 #[.pointer (some ⟨K, 0, none⟩), .int .i64 id] w fun e w' => e = .returned (.int .i64 (presentOf J id)) ∧ Grown w w' := by
  have c0 := h.cell
  have cT := textG_any T tv tb J id w h.tab h.few hf.1 hf.2
  unfold presentOf
  clear h
  generalize txtOf J id = s at *
  cases ht : thereOf J id with
  | true =>
    rw [ht] at cT
    rw [if_pos rfl]
    clear ht
    go_enter Try.func42, Try.ntmps42
    go_wp2_with fail
    refine cT.mono ?_
    rintro e w1 ⟨rfl, hg⟩
    have HG := Lib.hid hg
    clear hg
    go_wp2
    go_ret
    exact ⟨rfl, HG.out⟩
  | false =>
    rw [ht] at cT
    rw [if_neg (by simp)]
    clear ht
    go_enter Try.func42, Try.ntmps42
    go_wp2_with fail
    refine cT.mono ?_
    rintro e w1 ⟨rfl, hg⟩
    have HG := Lib.hid hg
    clear hg
    go_wp2
    go_ret
    exact ⟨rfl, HG.out⟩
set_option maxRecDepth 100000 in
set_option maxHeartbeats 2000000 in
theorem place_any (x : Item) (h : LzT w K T tv tb J) (hf : FitsI x) : Calls Try.prog 28 #[.pointer (some ⟨K, 0, none⟩), itemV x] w fun e w' => e = .returned (entV (placeOf J x)) ∧ Grown w w' := by
  obtain ⟨a, b, n⟩ := x
  obtain ⟨N, hN⟩ : ∃ N, w.heap.size = N := ⟨_, rfl⟩
  obtain ⟨wa, hwa⟩ : ∃ wa, w.alloc (.cells #[.int .i64 a, .int .i64 b, .int .i64 n] 48) = wa := ⟨_, rfl⟩
  obtain ⟨wb, hwb⟩ : ∃ wb, wa.alloc (.cells #[.int .i64 0, .int .i64 0, .int .i64 0, .int .i64 0, .int .i64 0, .int .i64 0] 61) = wb := ⟨_, rfl⟩
  obtain ⟨wc, hwc⟩ : ∃ wc, wb.alloc (.cells #[.int .i64 a, .int .i64 b, .int .i64 n] 48) = wc := ⟨_, rfl⟩
  have za : wa.heap.size = N + 1 := by rw [← hwa, World.size_alloc, hN]
  have zb : wb.heap.size = N + 1 + 1 := by rw [← hwb, World.size_alloc, za]
  have ga : Grown w wa := by rw [← hwa]; exact (Grown.refl w).alloc _
  have gb : Grown w wb := by rw [← hwb]; exact ga.alloc _
  have gc : Grown w wc := by rw [← hwc]; exact gb.alloc _
  have na : wa.heap[N]? = some (.cells #[.int .i64 a, .int .i64 b, .int .i64 n] 48 (0, 0)) := by rw [← hwa, ← hN]; exact heap_alloc_new w _
  have nb : wb.heap[N]? = some (.cells #[.int .i64 a, .int .i64 b, .int .i64 n] 48 (0, 0)) := by rw [← hwb]; exact (Below.heap_alloc _ _ _ (by omega)).trans na
  have nc : wc.heap[N]? = some (.cells #[.int .i64 a, .int .i64 b, .int .i64 n] 48 (0, 0)) := by rw [← hwc]; exact (Below.heap_alloc _ _ _ (by omega)).trans nb
  have eb : wb.heap[N + 1]? = some (.cells #[.int .i64 0, .int .i64 0, .int .i64 0, .int .i64 0, .int .i64 0, .int .i64 0] 61 (0, 0)) := by rw [← hwb, ← za]; exact heap_alloc_new wa _
  have ec : wc.heap[N + 1]? = some (.cells #[.int .i64 0, .int .i64 0, .int .i64 0, .int .i64 0, .int .i64 0, .int .i64 0] 61 (0, 0)) := by rw [← hwc]; exact (Below.heap_alloc _ _ _ (by omega)).trans eb
  have dc : wc.heap[N + 1 + 1]? = some (.cells #[.int .i64 a, .int .i64 b, .int .i64 n] 48 (0, 0)) := by rw [← hwc, ← zb]; exact heap_alloc_new wb _
  have zc : wc.heap.size = N + 1 + 1 + 1 := by rw [← hwc, World.size_alloc, zb]
  have a0 : wb.cell? ⟨N, 0, none⟩ = some (.int .i64 a) := by rw [cell_of_row wb N _ _ 48 (0, 0) nb]; rfl
  have a1 : wb.cell? ⟨N, 1, none⟩ = some (.int .i64 b) := by rw [cell_of_row wb N _ _ 48 (0, 0) nb]; rfl
  have a2 : wb.cell? ⟨N, 2, none⟩ = some (.int .i64 n) := by rw [cell_of_row wb N _ _ 48 (0, 0) nb]; rfl
  have HT := Lib.hid (h.grown gc)
  have HGC := Lib.hid gc
  have HN := Lib.hid hN
  -- the boxes, in any world that has grown since
  have HX : Hid (∀ W, Grown wc W → W.heap[N]? = some (.cells #[.int .i64 a, .int .i64 b, .int .i64 n] 48 (0, 0)) ∧ W.heap[N + 1]? = some (.cells #[.int .i64 0, .int .i64 0, .int .i64 0, .int .i64 0, .int .i64 0, .int .i64 0] 61 (0, 0)) ∧ W.heap[N + 1 + 1]? = some (.cells #[.int .i64 a, .int .i64 b, .int .i64 n] 48 (0, 0))) := Lib.hid fun W hg => ⟨(hg.below.block N (by omega)).trans nc, (hg.below.block (N + 1) (by omega)).trans ec, (hg.below.block (N + 1 + 1) (by omega)).trans dc⟩
  have HS : Hid (∀ W, Grown wc W → W.cell? ⟨N, 0, none⟩ = some (.int .i64 a) ∧ W.cell? ⟨N, 1, none⟩ = some (.int .i64 b)) := Lib.hid fun W hg => ⟨by rw [cell_of_row W N _ _ 48 (0, 0) (HX.out W hg).1]; rfl, by rw [cell_of_row W N _ _ 48 (0, 0) (HX.out W hg).1]; rfl⟩
  have HS2 : Hid (∀ W x y, Grown wc W → ((W.setCell ⟨N + 1 + 1, 0, none⟩ x).setCell ⟨N + 1 + 1, 1, none⟩ y).cell? ⟨N, 0, none⟩ = some (.int .i64 a) ∧ ((W.setCell ⟨N + 1 + 1, 0, none⟩ x).setCell ⟨N + 1 + 1, 1, none⟩ y).cell? ⟨N, 1, none⟩ = some (.int .i64 b)) := Lib.hid fun W x y hg => by
    have h1 : ((W.setCell ⟨N + 1 + 1, 0, none⟩ x).setCell ⟨N + 1 + 1, 1, none⟩ y).heap[N]? = some (.cells #[.int .i64 a, .int .i64 b, .int .i64 n] 48 (0, 0)) := by
      rw [Below.heap_setCell _ ⟨N + 1 + 1, 1, none⟩ _ N (by show N ≠ N + 1 + 1; omega), Below.heap_setCell _ ⟨N + 1 + 1, 0, none⟩ _ N (by show N ≠ N + 1 + 1; omega)]
      exact (HX.out W hg).1
    exact ⟨by rw [cell_of_row _ N _ _ 48 (0, 0) h1]; rfl, by rw [cell_of_row _ N _ _ 48 (0, 0) h1]; rfl⟩
  have HD : Hid (∀ W, Grown wc W → W.cell? ⟨N + 1 + 1, 0, none⟩ = some (.int .i64 a) ∧ W.cell? ⟨N + 1 + 1, 1, none⟩ = some (.int .i64 b) ∧ W.frozen? ⟨N + 1 + 1, 0, none⟩ = false ∧ W.frozen? ⟨N + 1 + 1, 1, none⟩ = false) := Lib.hid fun W hg => ⟨by rw [cell_of_row W (N + 1 + 1) _ _ 48 (0, 0) (HX.out W hg).2.2]; rfl, by rw [cell_of_row W (N + 1 + 1) _ _ 48 (0, 0) (HX.out W hg).2.2]; rfl, Lib.frozen_of_heap (HX.out W hg).2.2 _, Lib.frozen_of_heap (HX.out W hg).2.2 _⟩
  have cP : ∀ id W, (id = a ∨ id = b) → Grown wc W → Calls Try.prog 42 #[.pointer (some ⟨K, 0, none⟩), .int .i64 id] W fun e w' => e = .returned (.int .i64 (presentOf J id)) ∧ Grown wc w' := fun id W hid hg =>
    (present_any id (HT.out.grown hg) (by rcases hid with rfl | rfl <;> first | exact hf.1 | exact hf.2.1)).mono fun e w' h => ⟨h.1, hg.trans h.2⟩
  have HCP := Lib.hid cP
  have hg0 := Grown.refl wc
  unfold itemV placeOf entV
  simp only
  obtain ⟨s0, s1⟩ := HS.out wc hg0
  clear h cP na nb nc eb ec dc ga gb gc hf zc
  go_enter Try.func28, Try.ntmps28
  go_wp2_with fail
  go_region_held3 (fun w' => w'.cell? ⟨N, 0, none⟩ = some (.int .i64 a) ∧ w'.cell? ⟨N, 1, none⟩ = some (.int .i64 b))
    (first | with_reducible exact ⟨s0, s1⟩ | with_reducible exact HS.out _ (by assumption) | with_reducible exact HS.out _ (Grown.drew (by assumption)) | with_reducible exact HS2.out _ _ _ (by assumption) | with_reducible exact HS2.out _ _ _ (Grown.drew (by assumption)))
    (first | (go_at_call 42
              refine (HCP.out _ _ (by first | exact .inl rfl | exact .inr rfl) (by first | assumption | exact Grown.drew (by assumption))).mono ?_
              rintro e w5 ⟨rfl, hg5⟩
              obtain ⟨d0, d1, f0, f1⟩ := HD.out w5 hg5))
  all_goals (
    obtain ⟨w6, hw6⟩ : ∃ w6, (w5.setCell ⟨N + 1 + 1, 0, none⟩ (.int .i64 (presentOf J a))).setCell ⟨N + 1 + 1, 1, none⟩ (.int .i64 (presentOf J b)) = w6 := ⟨_, rfl⟩
    rw [hw6]
    have hd6 := heap_setCell_at (heap_setCell_at (HX.out w5 hg5).2.2 (i := 0) (.int .i64 (presentOf J a))) (i := 1) (.int .i64 (presentOf J b))
    rw [hw6] at hd6
    have hn6 : w6.heap[N]? = some (.cells #[.int .i64 a, .int .i64 b, .int .i64 n] 48 (0, 0)) := by
      rw [← hw6, Below.heap_setCell _ ⟨N + 1 + 1, 1, none⟩ _ N (by show N ≠ N + 1 + 1; omega), Below.heap_setCell _ ⟨N + 1 + 1, 0, none⟩ _ N (by show N ≠ N + 1 + 1; omega)]
      exact (HX.out w5 hg5).1
    have he6 : w6.heap[N + 1]? = some (.cells #[.int .i64 0, .int .i64 0, .int .i64 0, .int .i64 0, .int .i64 0, .int .i64 0] 61 (0, 0)) := by
      rw [← hw6, Below.heap_setCell _ ⟨N + 1 + 1, 1, none⟩ _ (N + 1) (by show N + 1 ≠ N + 1 + 1; omega), Below.heap_setCell _ ⟨N + 1 + 1, 0, none⟩ _ (N + 1) (by show N + 1 ≠ N + 1 + 1; omega)]
      exact (HX.out w5 hg5).2.1
    have HG6 : Hid (Grown w w6) := Lib.hid (by
      rw [← hw6]
      have hle : w.heap.size ≤ N + 1 + 1 := by rw [HN.out]; omega
      exact ((HGC.out.trans hg5).setCell (p := ⟨N + 1 + 1, 0, none⟩) hle _).setCell (p := ⟨N + 1 + 1, 1, none⟩) hle _)
    have x0 : w6.cell? ⟨N, 0, none⟩ = some (.int .i64 a) := by rw [cell_of_row w6 N _ _ 48 (0, 0) hn6]; rfl
    have x1 : w6.cell? ⟨N, 1, none⟩ = some (.int .i64 b) := by rw [cell_of_row w6 N _ _ 48 (0, 0) hn6]; rfl
    have x2 : w6.cell? ⟨N, 2, none⟩ = some (.int .i64 n) := by rw [cell_of_row w6 N _ _ 48 (0, 0) hn6]; rfl
    have y0 : w6.cell? ⟨N + 1 + 1, 0, none⟩ = some (.int .i64 (presentOf J a)) := by rw [cell_of_row w6 (N + 1 + 1) _ _ 48 (0, 0) hd6]; rfl
    have y1 : w6.cell? ⟨N + 1 + 1, 1, none⟩ = some (.int .i64 (presentOf J b)) := by rw [cell_of_row w6 (N + 1 + 1) _ _ 48 (0, 0) hd6]; rfl
    have y2 : w6.cell? ⟨N + 1 + 1, 2, none⟩ = some (.int .i64 n) := by rw [cell_of_row w6 (N + 1 + 1) _ _ 48 (0, 0) hd6]; rfl
    have z0 : w6.cell? ⟨N + 1, 0, none⟩ = some (.int .i64 0) := by rw [cell_of_row w6 (N + 1) _ _ 61 (0, 0) he6]; rfl
    have k0 : w6.frozen? ⟨N + 1, 0, none⟩ = false := Lib.frozen_of_heap he6 _
    have z1 : w6.cell? ⟨N + 1, 1, none⟩ = some (.int .i64 0) := by rw [cell_of_row w6 (N + 1) _ _ 61 (0, 0) he6]; rfl
    have k1 : w6.frozen? ⟨N + 1, 1, none⟩ = false := Lib.frozen_of_heap he6 _
    have z2 : w6.cell? ⟨N + 1, 2, none⟩ = some (.int .i64 0) := by rw [cell_of_row w6 (N + 1) _ _ 61 (0, 0) he6]; rfl
    have k2 : w6.frozen? ⟨N + 1, 2, none⟩ = false := Lib.frozen_of_heap he6 _
    have z3 : w6.cell? ⟨N + 1, 3, none⟩ = some (.int .i64 0) := by rw [cell_of_row w6 (N + 1) _ _ 61 (0, 0) he6]; rfl
    have k3 : w6.frozen? ⟨N + 1, 3, none⟩ = false := Lib.frozen_of_heap he6 _
    have z4 : w6.cell? ⟨N + 1, 4, none⟩ = some (.int .i64 0) := by rw [cell_of_row w6 (N + 1) _ _ 61 (0, 0) he6]; rfl
    have k4 : w6.frozen? ⟨N + 1, 4, none⟩ = false := Lib.frozen_of_heap he6 _
    have z5 : w6.cell? ⟨N + 1, 5, none⟩ = some (.int .i64 0) := by rw [cell_of_row w6 (N + 1) _ _ 61 (0, 0) he6]; rfl
    have k5 : w6.frozen? ⟨N + 1, 5, none⟩ = false := Lib.frozen_of_heap he6 _
    have HE6 := Lib.hid he6
    clear hg5 d0 d1 f0 f1 hd6 hn6 he6 hw6 s0 s1 hg0
    go_wp2
    have h0 := heap_setCell_at HE6.out (i := 0) (.int .i64 a)
    have h1 := heap_setCell_at h0 (i := 1) (.int .i64 b)
    have h2 := heap_setCell_at h1 (i := 2) (.int .i64 n)
    have h3 := heap_setCell_at h2 (i := 3) (.int .i64 (presentOf J a))
    have h4 := heap_setCell_at h3 (i := 4) (.int .i64 (presentOf J b))
    have h5 := heap_setCell_at h4 (i := 5) (.int .i64 n)
    have q0 := cell_of_row _ (N + 1) 0 _ 61 (0, 0) h5
    have q1 := cell_of_row _ (N + 1) 1 _ 61 (0, 0) h5
    have q2 := cell_of_row _ (N + 1) 2 _ 61 (0, 0) h5
    have q3 := cell_of_row _ (N + 1) 3 _ 61 (0, 0) h5
    have q4 := cell_of_row _ (N + 1) 4 _ 61 (0, 0) h5
    have q5 := cell_of_row _ (N + 1) 5 _ 61 (0, 0) h5
    refine bodyPost_ret (v := .agg #[.int .i64 a, .int .i64 b, .int .i64 n, .int .i64 (presentOf J a), .int .i64 (presentOf J b), .int .i64 n]) (by rw [results_cell1z rfl]; simp [go_sem, q0, q1, q2, q3, q4, q5]) rfl ?_
    have hle : w.heap.size ≤ N + 1 := by rw [HN.out]; omega
    exact ⟨rfl, (((((HG6.out.setCell (p := ⟨N + 1, 0, none⟩) hle _).setCell (p := ⟨N + 1, 1, none⟩) hle _).setCell (p := ⟨N + 1, 2, none⟩) hle _).setCell (p := ⟨N + 1, 3, none⟩) hle _).setCell (p := ⟨N + 1, 4, none⟩) hle _).setCell (p := ⟨N + 1, 5, none⟩) hle _⟩)
end Go.Proofs.Ytbnekkcjkdghcaa
