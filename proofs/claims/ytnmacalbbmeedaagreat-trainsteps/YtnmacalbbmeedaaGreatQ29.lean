/- Texts in one: EHeapE, EHeapF. -/
import Derived.Test.YtnmacalbbmeedaaGreatQ28
import Derived.Laws.IdiomCopy
/- Popped. -/
namespace Go.Proofs.YtnmacalbbmeedaaGreat
open Go.RowKit Go.Shelf
open Go.Sort (grow grow_empty grow_grow alloc_eq_grow heap_grow_old)
variable {w w' : World} {B K : Nat} {fv v : Value} {A : List Ent} {pu pk : Int} {bt : Ent → Ent → Bool} {E : World → Prop} {Bk : Nat → Prop}

set_option maxRecDepth 100000 in
theorem sizeIt (w : World) : (sizeOf (Tryz.prog.elem 140)).run Tryz.prog w = .ok 6 w := by
  obtain ⟨j0, hj, hy0, hy1, hy2⟩ := info_parts entE.info
  have he : Tryz.prog.elem 140 = entE.ty := by kernel_rfl
  rw [he]
  simp [sizeOf, typeInfo, hj, hy1]
  rfl
set_option maxRecDepth 100000 in
theorem elemIt : Tryz.prog.underlying 140 = some (.slice (Tryz.prog.elem 140)) := by kernel_rfl
set_option maxRecDepth 100000 in
theorem it_head (g n c m : Nat) (hm : m ≤ c) (w : World) : (Instr.slice 140 (.slice (some ⟨g, 0, none⟩) n c) none (some (.int .i64 (m : Int))) none).run Tryz.prog w = .ok (.slice (some ⟨g, 0, none⟩) m c) w := by
  have := run_slice_h w 140 (some ⟨g, 0, none⟩) n c elemIt .i64 (m : Int) (by omega) (by omega)
  rw [sizeIt] at this
  rw [this]
  simp [sliced, add_zero_off]
set_option maxRecDepth 100000 in
theorem it_tail (g n c m : Nat) (hm : m < n) (hc : n ≤ c) (w : World) : (Instr.slice 140 (.slice (some ⟨g, 0, none⟩) n c) (some (.int .i64 (m : Int))) none none).run Tryz.prog w = .ok (.slice (some ⟨g, m * 6, none⟩) (n - m) (c - m)) w := by
  have := run_slice_l w 140 (some ⟨g, 0, none⟩) n c elemIt .i64 (m : Int) (by omega) (by omega)
  rw [sizeIt] at this
  rw [this]
  simp [sliced, add_zero_off, show c ≠ m by omega]
set_option maxRecDepth 100000 in
/-- 'clear' of one item. -/
theorem it_clear (g o c : Nat) (ty : TypeId) (w : World) (u0 u1 u2 u3 u4 u5 : Value) (c0 : w.cell? ⟨g, o, none⟩ = some u0) (c1 : w.cell? ⟨g, o + 1, none⟩ = some u1) (c2 : w.cell? ⟨g, o + 2, none⟩ = some u2) (c3 : w.cell? ⟨g, o + 3, none⟩ = some u3) (c4 : w.cell? ⟨g, o + 4, none⟩ = some u4) (c5 : w.cell? ⟨g, o + 5, none⟩ = some u5) (f0 : w.frozen? ⟨g, o, none⟩ = false) (f1 : w.frozen? ⟨g, o + 1, none⟩ = false) (f2 : w.frozen? ⟨g, o + 2, none⟩ = false) (f3 : w.frozen? ⟨g, o + 3, none⟩ = false) (f4 : w.frozen? ⟨g, o + 4, none⟩ = false) (f5 : w.frozen? ⟨g, o + 5, none⟩ = false) :
    (Builtin.clear_ #[140] ty #[.slice (some ⟨g, o, none⟩) 1 c]).run Tryz.prog w = .ok (.tuple #[]) ((((((w.setCell ⟨g, o, none⟩ (.int .i64 0)).setCell ⟨g, o + 1, none⟩ (.int .i64 0)).setCell ⟨g, o + 2, none⟩ (.int .i64 0)).setCell ⟨g, o + 3, none⟩ (.int .i64 0)).setCell ⟨g, o + 4, none⟩ (.int .i64 0)).setCell ⟨g, o + 5, none⟩ (.int .i64 0)) := by
  have hzc : (Builtin.zeroCells (Value.agg #[.int .i64 0, .int .i64 0, .int .i64 0, .int .i64 0, .int .i64 0, .int .i64 0]).cells 1).toList = [.int .i64 0, .int .i64 0, .int .i64 0, .int .i64 0, .int .i64 0, .int .i64 0] := by kernel_rfl
  have hst := run_storeCells_cells (P := Tryz.prog) g o [.int .i64 0, .int .i64 0, .int .i64 0, .int .i64 0, .int .i64 0, .int .i64 0] 0 w (by
    intro j hj
    match j, hj with
    | 0, _ => exact (congrArg Option.isSome c0).trans rfl
    | 1, _ => exact (congrArg Option.isSome c1).trans rfl
    | 2, _ => exact (congrArg Option.isSome c2).trans rfl
    | 3, _ => exact (congrArg Option.isSome c3).trans rfl
    | 4, _ => exact (congrArg Option.isSome c4).trans rfl
    | 5, _ => exact (congrArg Option.isSome c5).trans rfl) (by
    intro j hj
    match j, hj with
    | 0, _ => exact f0
    | 1, _ => exact f1
    | 2, _ => exact f2
    | 3, _ => exact f3
    | 4, _ => exact f4
    | 5, _ => exact f5) (by intro u hu; simp only [List.mem_cons, List.not_mem_nil, or_false] at hu; rcases hu with rfl | rfl | rfl | rfl | rfl | rfl <;> rfl)
  simp only [Nat.add_zero] at hst
  simp [Builtin.clear_, run_underlying Tryz.underlying140, hzc, hst]
  rfl
set_option maxRecDepth 100000 in
/-- The first k of an owned row. -/
theorem ownE.cut {α : Type} {R : Elt α} {w : World} {b g n cap k : Nat} {L : List α} (h : ownE R w b (.slice (some ⟨g, 0, none⟩) n cap) L) (hk : k ≤ L.length) : ownE R w b (.slice (some ⟨g, 0, none⟩) k cap) (L.take k) := by
  rcases h.2 with ⟨h0, _⟩ | ⟨g', cap', cur, hv, hb, hg, h1, h2, h3, h4⟩
  · cases h0
  · cases hv
    have hl : (L.take k).length = k := by rw [List.length_take]; omega
    refine ⟨ecells_len _, .inr ⟨g, cap, cur, by rw [hl], hb, hg, by omega, h2, h3, ?_⟩⟩
    rw [hl]
    have e : ecells R L = ecells R (L.take k) ++ ecells R (L.drop k) := by rw [← ecells_append, List.take_append_drop]
    have hm : k * R.n ≤ L.length * R.n := Nat.mul_le_mul_right _ hk
    have := congrArg (List.take (k * R.n)) h4
    rw [List.take_take, Nat.min_eq_left hm, e, List.take_append_of_le_length (by rw [ecells_len, hl]; exact Nat.le_refl _)] at this
    rw [this]
    exact List.take_of_length_le (by rw [ecells_len, hl]; exact Nat.le_refl _)
set_option maxRecDepth 100000 in
theorem Hp.cut {g n cap m : Nat} (h : Hp w B K fv (.slice (some ⟨g, 0, none⟩) n cap) A pu pk) (hm : m ≤ A.length) (hgK : g ≠ K) : Hp (w.setCell ⟨K, 1, none⟩ (.slice (some ⟨g, 0, none⟩) m cap)) B K fv (.slice (some ⟨g, 0, none⟩) m cap) (A.take m) pu pk :=
  ⟨(heap_setCell_at h.box _).trans rfl, (h.row.cut hm).kept fun k hk => Below.heap_setCell _ ⟨K, 1, none⟩ _ k (fun e => by cases hk; exact hgK e), by have := h.few; rw [List.length_take]; omega, h.base, fun x hx => h.fits x (List.mem_of_mem_take hx)⟩
/-- The cells of a box of an item. -/
structure BoxI (w : World) (N : Nat) (x0 x1 x2 x3 x4 x5 : Int) : Prop where
  heap : w.heap[N]? = some (.cells #[.int .i64 x0, .int .i64 x1, .int .i64 x2, .int .i64 x3, .int .i64 x4, .int .i64 x5] 111 (0, 0))
set_option maxRecDepth 100000 in
theorem BoxI.cells {N : Nat} {x0 x1 x2 x3 x4 x5 : Int} (h : BoxI w N x0 x1 x2 x3 x4 x5) : w.cell? ⟨N, 0, none⟩ = some (.int .i64 x0) ∧ w.cell? ⟨N, 1, none⟩ = some (.int .i64 x1) ∧ w.cell? ⟨N, 2, none⟩ = some (.int .i64 x2) ∧ w.cell? ⟨N, 3, none⟩ = some (.int .i64 x3) ∧ w.cell? ⟨N, 4, none⟩ = some (.int .i64 x4) ∧ w.cell? ⟨N, 5, none⟩ = some (.int .i64 x5) ∧ w.frozen? ⟨N, 0, none⟩ = false ∧ w.frozen? ⟨N, 1, none⟩ = false ∧ w.frozen? ⟨N, 2, none⟩ = false ∧ w.frozen? ⟨N, 3, none⟩ = false ∧ w.frozen? ⟨N, 4, none⟩ = false ∧ w.frozen? ⟨N, 5, none⟩ = false := by
  refine ⟨?_, ?_, ?_, ?_, ?_, ?_, Lib.frozen_of_heap h.heap _, Lib.frozen_of_heap h.heap _, Lib.frozen_of_heap h.heap _, Lib.frozen_of_heap h.heap _, Lib.frozen_of_heap h.heap _, Lib.frozen_of_heap h.heap _⟩
  · rw [cell_of_row w N 0 _ 111 (0, 0) h.heap]; rfl
  · rw [cell_of_row w N 1 _ 111 (0, 0) h.heap]; rfl
  · rw [cell_of_row w N 2 _ 111 (0, 0) h.heap]; rfl
  · rw [cell_of_row w N 3 _ 111 (0, 0) h.heap]; rfl
  · rw [cell_of_row w N 4 _ 111 (0, 0) h.heap]; rfl
  · rw [cell_of_row w N 5 _ 111 (0, 0) h.heap]; rfl
set_option maxRecDepth 100000 in
theorem BoxI.lt {N : Nat} {x0 x1 x2 x3 x4 x5 : Int} (h : BoxI w N x0 x1 x2 x3 x4 x5) : N < w.heap.size := (Array.getElem?_eq_some_iff.1 h.heap).1
set_option maxRecDepth 100000 in
theorem BoxI.kept {N : Nat} {x0 x1 x2 x3 x4 x5 : Int} {S : Nat → Prop} (h : BoxI w N x0 x1 x2 x3 x4 x5) (k : Kept S w w') (hS : ¬ S N) : BoxI w' N x0 x1 x2 x3 x4 x5 := ⟨(k.block N h.lt hS).trans h.heap⟩
set_option maxRecDepth 100000 in
theorem BoxI.grown {N : Nat} {x0 x1 x2 x3 x4 x5 : Int} (h : BoxI w N x0 x1 x2 x3 x4 x5) (k : Grown w w') : BoxI w' N x0 x1 x2 x3 x4 x5 := ⟨(k.below.block N h.lt).trans h.heap⟩
set_option maxRecDepth 100000 in
theorem BoxI.new (w : World) (x0 x1 x2 x3 x4 x5 : Int) : BoxI (w.alloc (.cells #[.int .i64 x0, .int .i64 x1, .int .i64 x2, .int .i64 x3, .int .i64 x4, .int .i64 x5] 111)) w.heap.size x0 x1 x2 x3 x4 x5 := ⟨heap_alloc_new w _⟩
set_option maxRecDepth 100000 in
set_option maxHeartbeats 800000 in
theorem pop_none (h : Hp w B K fv v [] pu pk) : Calls Tryz.prog 100 #[.pointer (some ⟨K, 0, none⟩)] w fun e w' => e = .returned (topV (topOf [])) ∧ Hp w' B K fv v [] pu pk ∧ Below w.heap.size w w' := by
  obtain ⟨N, hN⟩ : ∃ N, w.heap.size = N := ⟨_, rfl⟩
  have HR := Lib.hid ((Grown.refl w).alloc (.cells #[.int .i64 0, .int .i64 0, .int .i64 0, .int .i64 0, .int .i64 0, .int .i64 0] 111))
  have HN := Lib.hid (BoxI.new w 0 0 0 0 0 0)
  rw [hN] at HN
  have HH := Lib.hid h
  have cT := top_any (h.grown HR.out)
  unfold topV topOf entV at cT
  clear h
  go_enter Tryz.func100, Tryz.ntmps100
  go_wp2_with fail
  refine cT.mono ?_
  rintro e w2 ⟨rfl, hg⟩
  have HG : Hid (Grown w (w2.alloc (.cells #[.int .i64 0, .int .i64 0, .int .i64 0, .int .i64 0, .int .i64 0, .int .i64 0] 111))) := Lib.hid ((HR.out.trans hg).alloc _)
  have HB3 : Hid (BoxI (w2.alloc (.cells #[.int .i64 0, .int .i64 0, .int .i64 0, .int .i64 0, .int .i64 0, .int .i64 0] 111)) N 0 0 0 0 0 0) := Lib.hid (HN.out.grown (hg.alloc _))
  obtain ⟨n0, n1, n2, n3, n4, n5, n6, n7, n8, n9, n10, n11⟩ := HB3.out.cells
  clear hg cT
  go_wp2
  have h1 := heap_setCell_at HB3.out.heap (i := 0) (.int .i64 0)
  have h2 := heap_setCell_at h1 (i := 1) (.int .i64 0)
  have h3 := heap_setCell_at h2 (i := 2) (.int .i64 0)
  have h4 := heap_setCell_at h3 (i := 3) (.int .i64 0)
  have h5 := heap_setCell_at h4 (i := 4) (.int .i64 0)
  have h6 := heap_setCell_at h5 (i := 5) (.int .i64 0)
  have x0 := cell_of_row _ N 0 _ 111 (0, 0) h6
  have x1 := cell_of_row _ N 1 _ 111 (0, 0) h6
  have x2 := cell_of_row _ N 2 _ 111 (0, 0) h6
  have x3 := cell_of_row _ N 3 _ 111 (0, 0) h6
  have x4 := cell_of_row _ N 4 _ 111 (0, 0) h6
  have x5 := cell_of_row _ N 5 _ 111 (0, 0) h6
  refine bodyPost_ret (v := topV (topOf [])) (by rw [results_cell_tmp rfl]; simp [go_sem, topV, topOf, entV, x0, x1, x2, x3, x4, x5]) rfl ?_
  have hb := HG.out.below
  have hb2 := ((((((hb.setCell (p := ⟨N, 0, none⟩) (by rw [hN]; exact Nat.le_refl _) (.int .i64 0)).setCell (p := ⟨N, 1, none⟩) (by rw [hN]; exact Nat.le_refl _) (.int .i64 0)).setCell (p := ⟨N, 2, none⟩) (by rw [hN]; exact Nat.le_refl _) (.int .i64 0)).setCell (p := ⟨N, 3, none⟩) (by rw [hN]; exact Nat.le_refl _) (.int .i64 0)).setCell (p := ⟨N, 4, none⟩) (by rw [hN]; exact Nat.le_refl _) (.int .i64 0)).setCell (p := ⟨N, 5, none⟩) (by rw [hN]; exact Nat.le_refl _) (.int .i64 0))
  exact ⟨rfl, HH.out.below hb2, by first | exact hb2 | (rw [← hN]; exact hb2)⟩
/-- Behind a pop of a heap that has a on top, and t besides. -/
def PopRet (w : World) (B K : Nat) (fv v : Value) (a : Ent) (t : List Ent) (pu pk : Int) (bt : Ent → Ent → Bool) (e : Ending) (w' : World) : Prop :=
  e = .returned (topV (a, true)) ∧ ∃ v' A', A'.Perm t ∧ HeapFrom bt A' 0 ∧ Hp w' B K fv v' A' pu pk ∧ Kept (mine K v) w w' ∧ v'.ownBlock = v.ownBlock
set_option maxRecDepth 100000 in
set_option maxHeartbeats 1600000 in
theorem pop_some {g : Nat} {lb : Array Value} {a : Ent} {t : List Ent} (b : Bet g lb bt E Bk) (h : Hp w B K (fnV g lb) v (a :: t) pu pk) (hE : E w) (hap : ∀ k, mine K v k → ¬ Bk k) (hH : HeapFrom bt (a :: t) 0) :
    Calls Tryz.prog 100 #[.pointer (some ⟨K, 0, none⟩)] w (PopRet w B K (fnV g lb) v a t pu pk bt) := by
  obtain ⟨N, hN⟩ : ∃ N, w.heap.size = N := ⟨_, rfl⟩
  have HBet := Lib.hid b
  have HE := Lib.hid hE
  have HHp := Lib.hid hH
  have HR := Lib.hid ((Grown.refl w).alloc (.cells #[.int .i64 0, .int .i64 0, .int .i64 0, .int .i64 0, .int .i64 0, .int .i64 0] 111))
  have HN := Lib.hid (BoxI.new w 0 0 0 0 0 0)
  rw [hN] at HN
  have cT := top_any (h.grown HR.out)
  unfold topV topOf entV at cT
  obtain ⟨gr, cap, rfl, hc, hB, hgw, hgK⟩ := h.place (by simp)
  obtain ⟨m, hm⟩ : ∃ m, t.length = m := ⟨_, rfl⟩
  have HM : Hid ((a :: t).length = m + 1) := Lib.hid (by rw [List.length_cons, hm])
  rw [HM.out] at h hc hap ⊢
  have HAP := Lib.hid hap
  have HH := Lib.hid h
  have HFew : Hid (m + 1 ≤ 100000) := Lib.hid (by have := h.few; rw [HM.out] at this; exact this)
  clear h hm hH b hE hap
  go_enter Tryz.func100, Tryz.ntmps100
  go_wp2_with fail
  refine cT.mono ?_
  rintro e w2 ⟨rfl, hg⟩
  obtain ⟨w3, hw3⟩ : ∃ w3, w2.alloc (.cells #[.int .i64 a.1, .int .i64 a.2.1, .int .i64 a.2.2.1, .int .i64 a.2.2.2.1, .int .i64 a.2.2.2.2.1, .int .i64 a.2.2.2.2.2] 111) = w3 := ⟨_, rfl⟩
  have HG : Hid (Grown w w3) := Lib.hid (by rw [← hw3]; exact (HR.out.trans hg).alloc _)
  have HB3 : Hid (BoxI w3 N 0 0 0 0 0 0) := Lib.hid (HN.out.grown (by rw [← hw3]; exact hg.alloc _))
  have hbm := BoxI.new w2 a.1 a.2.1 a.2.2.1 a.2.2.2.1 a.2.2.2.2.1 a.2.2.2.2.2
  rw [hw3] at hbm
  obtain ⟨M, hM⟩ : ∃ M, w2.heap.size = M := ⟨_, rfl⟩
  rw [hM] at hbm
  have HBM := Lib.hid hbm
  have HNM : Hid (N < M ∧ gr < N) := Lib.hid ⟨by have := hg.below.size; rw [World.size_alloc, hN, hM] at this; omega, by omega⟩
  have HH3 := Lib.hid (HH.out.grown HG.out)
  obtain ⟨_, c1, _, _⟩ := HH3.out.cells
  have hfew := HFew.out
  have hw1 : IntKind.i64.wrap (((m + 1 : Nat) : Int) - 1) = (m : Int) := by rw [IntWalk.i64_in _ (by omega)]; omega
  obtain ⟨a0, a1, a2, a3, a4, a5, a6, a7, a8, a9, a10, a11⟩ := HH3.out.at (j := 0) (by simp)
  obtain ⟨b0, b1, b2, b3, b4, b5, b6, b7, b8, b9, b10, b11⟩ := HH3.out.at (j := m) (by rw [HM.out]; omega)
  rw [Nat.zero_mul] at a0 a1 a2 a3 a4 a5 a6 a7 a8 a9 a10 a11
  rw [Nat.zero_add] at a1 a2 a3 a4 a5 a7 a8 a9 a10 a11
  obtain ⟨z, hz⟩ : ∃ z, (a :: t)[m]'(by rw [HM.out]; omega) = z := ⟨_, rfl⟩
  rw [hz] at b0 b1 b2 b3 b4 b5
  obtain ⟨w4, hw4⟩ : ∃ w4, ((((((w3.setCell ⟨gr, 0, none⟩ (.int .i64 z.1)).setCell ⟨gr, 1, none⟩ (.int .i64 z.2.1)).setCell ⟨gr, 2, none⟩ (.int .i64 z.2.2.1)).setCell ⟨gr, 3, none⟩ (.int .i64 z.2.2.2.1)).setCell ⟨gr, 4, none⟩ (.int .i64 z.2.2.2.2.1)).setCell ⟨gr, 5, none⟩ (.int .i64 z.2.2.2.2.2)) = w4 := ⟨_, rfl⟩
  have HZF : Hid (FitsE z) := Lib.hid (by rw [← hz]; exact HH.out.fits _ (List.getElem_mem _))
  have hH4 := HH3.out.put z (j := 0) (by simp) hgK HZF.out
  simp only [Nat.zero_mul, Nat.zero_add] at hH4
  rw [hw4] at hH4
  have HH4 := Lib.hid hH4.drew
  have hl4 : m < ((a :: t).set 0 z).length := by rw [List.length_set, HM.out]; omega
  obtain ⟨w5, hw5⟩ : ∃ w5, ((((((w4.drew.setCell ⟨gr, m * 6, none⟩ (.int .i64 0)).setCell ⟨gr, m * 6 + 1, none⟩ (.int .i64 0)).setCell ⟨gr, m * 6 + 2, none⟩ (.int .i64 0)).setCell ⟨gr, m * 6 + 3, none⟩ (.int .i64 0)).setCell ⟨gr, m * 6 + 4, none⟩ (.int .i64 0)).setCell ⟨gr, m * 6 + 5, none⟩ (.int .i64 0)) = w5 := ⟨_, rfl⟩
  have hH5 := HH4.out.put (0, 0, 0, 0, 0, 0) hl4 hgK (fitsE_zero)
  rw [hw5] at hH5
  obtain ⟨y0, y1, y2, y3, y4, y5, y6, y7, y8, y9, y10, y11⟩ := HH4.out.at hl4
  have hcl := fun ty => it_clear gr (m * 6) (cap - m) ty w4.drew _ _ _ _ _ _ y0 y1 y2 y3 y4 y5 y6 y7 y8 y9 y10 y11
  rw [hw5] at hcl
  obtain ⟨w6, hw6⟩ : ∃ w6, w5.setCell ⟨K, 1, none⟩ (.slice (some ⟨gr, 0, none⟩) m cap) = w6 := ⟨_, rfl⟩
  have hH6 := hH5.cut (m := m) (by rw [List.length_set]; omega) hgK
  rw [hw6] at hH6
  have hpop : (((a :: t).set 0 z).set m (0, 0, 0, 0, 0, 0)).take m = popL (a :: t) m (by rw [HM.out]; omega) := by
    unfold popL
    rw [hz, List.take_set]
    exact List.set_eq_of_length_le (by rw [List.length_take]; omega)
  rw [hpop] at hH6
  have HK : Hid (Kept (fun k => k = gr ∨ k = K) w3 w6) := Lib.hid (by
    rw [← hw6, ← hw5, ← hw4]
    have s1 : (fun k => k = gr ∨ k = K) gr := .inl rfl
    have h1 : Kept (fun k => k = gr ∨ k = K) w3 _ := (Kept.put (Kept.refl _ w3) s1 0 1 2 3 4 5 (.int .i64 z.1) (.int .i64 z.2.1) (.int .i64 z.2.2.1) (.int .i64 z.2.2.2.1) (.int .i64 z.2.2.2.2.1) (.int .i64 z.2.2.2.2.2)).drew
    exact (Kept.put h1 s1 (m * 6) (m * 6 + 1) (m * 6 + 2) (m * 6 + 3) (m * 6 + 4) (m * 6 + 5) (.int .i64 0) (.int .i64 0) (.int .i64 0) (.int .i64 0) (.int .i64 0) (.int .i64 0)).setCell ⟨K, 1, none⟩ _ fun _ => .inr rfl)
  have hGK0 : Kept (mine K (.slice (some ⟨gr, 0, none⟩) (m + 1) cap)) w w6 := ((Kept.refl _ w).grow HG.out).trans HK.out fun i _ e => by
    rcases e with e | e
    · exact .inr (by rw [e]; rfl)
    · exact .inl e
  have HE6 : Hid (E w6) := Lib.hid (HBet.out.kept HE.out hGK0 HAP.out)
  have HAP6 : Hid (∀ k, mine K (.slice (some ⟨gr, 0, none⟩) m cap) k → ¬ Bk k) := Lib.hid fun k hk => HAP.out k hk
  have hsl : ∀ W, (Instr.slice 140 (.slice (some ⟨gr, 0, none⟩) (m + 1) cap) (some (.int .i64 (m : Int))) none none).run Tryz.prog W = .ok (.slice (some ⟨gr, m * 6, none⟩) 1 (cap - m)) W := fun W => by
    have := it_tail gr (m + 1) cap m (by omega) hc W
    rwa [show m + 1 - m = 1 by omega] at this
  have hsh := it_head gr (m + 1) cap m (by omega)
  obtain ⟨_, k1, _, _⟩ := HH4.out.cells
  obtain ⟨_, l1, _, _⟩ := hH5.cells
  have l2 := hH5.frozen 1
  have cS := sink_any HBet.out 0 hH6 HE6.out HAP6.out (popL_sk HM.out HHp.out) (by omega)
  have HH6 := Lib.hid hH6
  have p0 : (0 : Int) ≤ (m : Int) := by omega
  have p1 : (m : Int) < ((m + 1 : Nat) : Int) := by omega
  have p2 : (m : Int) < (m : Int) + 1 := by omega
  have HZ := Lib.hid hz
  clear hg cT hbm hz hH4 hH5 hH6 hl4 hpop hGK0 y0 y1 y2 y3 y4 y5 y6 y7 y8 y9 y10 y11
  go_wp2_with fail
  go_region
  go_wp2_with fail
  refine cS.mono ?_
  rintro e w7 ⟨rfl, A', hp7, hh7, ho7, hk7⟩
  have HO7 := Lib.hid ho7; have HK7 := Lib.hid hk7; have HP7 := Lib.hid hp7; have HT7 := Lib.hid hh7
  clear hp7 hh7 ho7 hk7 cS
  have HKN : Hid (K < N) := Lib.hid (by have := HH.out.ltK; omega)
  have hK37 : Kept (fun k => k = gr ∨ k = K) w3 w7 := HK.out.trans HK7.out fun i _ e => by cases e; exact .inl rfl
  have HBN7 := Lib.hid (HB3.out.kept hK37 (by have := HNM.out; have := HKN.out; omega))
  have HBM7 := Lib.hid (HBM.out.kept hK37 (by have := HNM.out; have := HKN.out; omega))
  obtain ⟨q0, q1, q2, q3, q4, q5, _, _, _, _, _, _⟩ := HBM7.out.cells
  obtain ⟨r0, r1, r2, r3, r4, r5, r6, r7, r8, r9, r10, r11⟩ := HBN7.out.cells
  have HK37 := Lib.hid hK37
  clear hK37
  go_wp2
  have h1 := heap_setCell_at HBN7.out.heap (i := 0) (.int .i64 a.1)
  have h2 := heap_setCell_at h1 (i := 1) (.int .i64 a.2.1)
  have h3 := heap_setCell_at h2 (i := 2) (.int .i64 a.2.2.1)
  have h4 := heap_setCell_at h3 (i := 3) (.int .i64 a.2.2.2.1)
  have h5 := heap_setCell_at h4 (i := 4) (.int .i64 a.2.2.2.2.1)
  have h6 := heap_setCell_at h5 (i := 5) (.int .i64 a.2.2.2.2.2)
  have x0 := cell_of_row _ N 0 _ 111 (0, 0) h6
  have x1 := cell_of_row _ N 1 _ 111 (0, 0) h6
  have x2 := cell_of_row _ N 2 _ 111 (0, 0) h6
  have x3 := cell_of_row _ N 3 _ 111 (0, 0) h6
  have x4 := cell_of_row _ N 4 _ 111 (0, 0) h6
  have x5 := cell_of_row _ N 5 _ 111 (0, 0) h6
  refine bodyPost_ret (v := topV (a, true)) (by rw [results_cell_tmp rfl]; simp [go_sem, topV, entV, x0, x1, x2, x3, x4, x5]) rfl ?_
  have s1 : (fun k => k = N) N := rfl
  have hkf : Kept (fun k => k = N) w7 ((((((w7.setCell ⟨N, 0, none⟩ (.int .i64 a.1)).setCell ⟨N, 1, none⟩ (.int .i64 a.2.1)).setCell ⟨N, 2, none⟩ (.int .i64 a.2.2.1)).setCell ⟨N, 3, none⟩ (.int .i64 a.2.2.2.1)).setCell ⟨N, 4, none⟩ (.int .i64 a.2.2.2.2.1)).setCell ⟨N, 5, none⟩ (.int .i64 a.2.2.2.2.2)) := Kept.put (S := fun k => k = N) (Kept.refl _ w7) s1 0 1 2 3 4 5 (.int .i64 a.1) (.int .i64 a.2.1) (.int .i64 a.2.2.1) (.int .i64 a.2.2.2.1) (.int .i64 a.2.2.2.2.1) (.int .i64 a.2.2.2.2.2)
  refine ⟨rfl, _, A', HP7.out.trans ((popL_perm HM.out).cons_inv).symm, HT7.out, HO7.out.kept fun i hi hm => hkf.block i hi ?_, ?_, rfl⟩
  · intro e
    have e' : i = N := e
    have h1 := HNM.out
    have h2 := HKN.out
    rcases hm with hm | hm
    · omega
    · have hm2 : i = gr := by simpa [Value.ownBlock] using hm
      omega
  · have hGK : Kept (mine K (.slice (some ⟨gr, 0, none⟩) (m + 1) cap)) w w3 := (Kept.refl _ w).grow HG.out
    refine (hGK.trans HK37.out fun i _ e => ?_).trans hkf fun i hi e => ?_
    · rcases e with e | e
      · exact .inr (by rw [e]; rfl)
      · exact .inl e
    · have e' : i = N := e
      omega
end Go.Proofs.YtnmacalbbmeedaaGreat
/- A heap made of items. -/
namespace Go.Proofs.YtnmacalbbmeedaaGreat
open Go.RowKit Go.Shelf
open Go.Sort (grow grow_empty grow_grow alloc_eq_grow heap_grow_old)
variable {w w' : World} {B K : Nat} {fv v : Value} {A : List Ent} {pu pk : Int} {bt : Ent → Ent → Bool} {E : World → Prop} {Bk : Nat → Prop}

set_option maxRecDepth 100000 in
theorem Hp.apps {w3 : World} {r : Value} {C : List Ent} (h : Hp w B K fv v A pu pk) (ho : ownE entE w3 B r (A ++ C)) (hg : w.grownBy w3 v.ownBlock) (hr : r.ownBlock = v.ownBlock ∨ r.ownBlock = some w.heap.size) (hf : A.length + C.length ≤ 100000) (hx : ∀ x ∈ C, FitsE x) :
    Hp (w3.setCell ⟨K, 1, none⟩ r) B K fv r (A ++ C) pu pk := by
  have hK3 := (hg.block K h.ltK (fun e => h.apart e.symm)).trans h.box
  refine ⟨(heap_setCell_at hK3 r).trans rfl, ho.kept fun g hgr => Below.heap_setCell _ ⟨K, 1, none⟩ _ g ?_, by simpa using hf, h.base, fun y hy => by
    rcases List.mem_append.1 hy with hy | hy
    · exact h.fits y hy
    · exact hx y hy⟩
  intro e
  have e' : g = K := e
  subst e'
  rcases hr with hr | hr
  · exact h.apart (hr.symm.trans hgr)
  · rw [hr] at hgr
    have := h.ltK
    cases hgr
    omega
/-- Behind Of. -/
def OfRet (w : World) (fv : Value) (L : List Ent) (bt : Ent → Ent → Bool) (e : Ending) (w' : World) : Prop :=
  ∃ K v A, e = .returned (.pointer (some ⟨K, 0, none⟩)) ∧ A.Perm L ∧ HeapFrom bt A 0 ∧ Hp w' w.heap.size K fv v A 0 (L.length : Int) ∧ Below w.heap.size w w'
def HOfRel (w : World) (K : Nat) (fv v : Value) (L : List Ent) (bt : Ent → Ent → Bool) (i : Value) (wr : World) : Prop :=
  ∃ (k : Nat) (A : List Ent), i = .int .i64 ((k : Int) - 1) ∧ k ≤ L.length ∧ A.Perm L ∧ HeapFrom bt A k ∧ Hp wr w.heap.size K fv v A 0 (L.length : Int) ∧ Below w.heap.size w wr
set_option maxRecDepth 100000 in
set_option maxHeartbeats 1600000 in
theorem hof_any {g : Nat} {lb : Array Value} (b : Bet g lb bt E Bk) (x : Value) (L : List Ent) (w : World) (h : eltsAt entE w x L) (hn : nilNone x) (hL : L.length ≤ 100000) (hE : E w) (hfit : ∀ x ∈ L, FitsE x) :
    Calls Tryz.prog 96 #[fnV g lb, x] w (OfRet w (fnV g lb) L bt) := by
  obtain ⟨K, hK⟩ : ∃ K, w.heap.size = K := ⟨_, rfl⟩
  have cN := hnew_any g lb w
  rw [hK] at cN
  obtain ⟨w1, hw1⟩ : ∃ w1, w.alloc (.cells #[fnV g lb, .slice none 0 0, .int .i64 0, .int .i64 0] 142) = w1 := ⟨_, rfl⟩
  have hH1 := hp_new (fnV g lb) w
  have hB1 : Below w.heap.size w w1 := by rw [← hw1]; exact (Below.refl _ w).alloc (Nat.le_refl _) _
  rw [hw1, hK] at hH1
  rw [hw1] at cN
  have HH1 := Lib.hid hH1
  have HE := Lib.hid (h.below hB1 (Nat.le_refl _))
  have HB1 := Lib.hid hB1
  have HNil := Lib.hid hn
  have HBet := Lib.hid b
  have HEV := Lib.hid hE; have HFT := Lib.hid hfit
  have HLT : Hid (∀ k, Bk k → k < w.heap.size) := Lib.hid (b.lt w hE)
  have hff := Tryz.isFn g lb
  obtain ⟨_, c1, _, c3⟩ := hH1.cells
  obtain ⟨a, cap, rfl, _⟩ := id h
  have HL := Lib.hid hL
  have HK := Lib.hid hK
  clear h hn hw1 hH1 hB1 b hL hK hE hfit
  go_enter Tryz.func96, Tryz.ntmps96
  go_wp2_with fail
  refine cN.mono ?_
  rintro e w1 ⟨rfl, rfl⟩
  clear cN
  obtain ⟨k0, hk0⟩ : ∃ k0, k0 = L.length / 2 := ⟨_, rfl⟩
  have hq1 : ((L.length : Nat) : Int).tdiv 2 = (k0 : Int) := by rw [Int.tdiv_eq_ediv_of_nonneg (by omega)]; omega
  have hq2 : IntKind.i64.wrap (k0 : Int) = (k0 : Int) := IntWalk.i64_in _ (by have := HL.out; omega)
  have hq3 : IntKind.i64.wrap ((k0 : Int) - 1) = (k0 : Int) - 1 := IntWalk.i64_in _ (by have := HL.out; omega)
  have HK0 := Lib.hid hk0
  clear hk0
  go_wp2_with (at_builtin; refine wpList_append_elts entE rfl (.tmp 16) (.tmp 17) rfl K (.slice none 0 0) _ [] L rfl rfl HH1.out.row HE.out HNil.out (by have := HL.out; simp; omega) (by have := HH1.out.ltK; omega) ?_; intro r w2 ho hg hr; have hP := Hp.apps HH1.out ho hg hr (by have := HL.out; simp; omega) HFT.out; rw [List.nil_append] at ho hP; obtain ⟨ra, rc, rfl, _⟩ := ho.form; obtain ⟨z0, zf⟩ : w2.cell? ⟨K, 1, none⟩ = some (.slice none 0 0) ∧ w2.frozen? ⟨K, 1, none⟩ = false := ⟨by rw [cell_of_row w2 K 1 _ 142 (0, 0) ((hg.block K HH1.out.ltK (fun e => HH1.out.apart e.symm)).trans HH1.out.box)]; rfl, Lib.frozen_of_heap ((hg.block K HH1.out.ltK (fun e => HH1.out.apart e.symm)).trans HH1.out.box) _⟩; obtain ⟨w3, hw3⟩ : ∃ w3, w2.setCell ⟨K, 1, none⟩ (.slice ra L.length rc) = w3 := ⟨_, rfl⟩; rw [hw3] at hP; obtain ⟨w4, hw4⟩ : ∃ w4, w3.setCell ⟨K, 3, none⟩ (.int .i64 (L.length : Int)) = w4 := ⟨_, rfl⟩; have hP4 := hP.setPk (L.length : Int); rw [hw4] at hP4; have HB4 : Hid (Below w.heap.size w w4) := Lib.hid (by rw [← hw4, ← hw3]; exact ((HB1.out.grown hg HB1.out.size (fun k e => by cases e)).setCell (by rw [HK.out]; exact Nat.le_refl _) _).setCell (by rw [HK.out]; exact Nat.le_refl _) _); obtain ⟨_, _, _, y3⟩ := hP.cells; have yf := hP.frozen 3; have HP4 := Lib.hid hP4; clear ho hg hr hP hP4)
  have HS : Hid (HOfRel w K (fnV g lb) (.slice ra L.length rc) L bt (.int .i64 ((k0 : Int) - 1)) w4) := Lib.hid ⟨k0, L, rfl, by have := HK0.out; omega, List.Perm.refl _, heap_half bt L (by have := HK0.out; omega), by rw [HK.out]; exact HP4.out, HB4.out⟩
  go_loopw [6] (fun i wr => HOfRel w K (fnV g lb) (.slice ra L.length rc) L bt i wr) (fun i _ => (intOf i + 1).toNat)
  case atStart => exact HS.out
  case round =>
    clear HS hq1 hq2 hq3 z0 zf y3 yf hw3 hw4 c1 c3
    obtain ⟨k, A, rfl, hk, hp, hh, ho, hb⟩ := hrel
    have HP := Lib.hid hp; have HH := Lib.hid hh; have HO := Lib.hid ho; have HB := Lib.hid hb
    clear hp hh ho hb
    cases k with
    | zero =>
      have h0 : ¬ (0 : Int) ≤ ((0 : Nat) : Int) - 1 := by omega
      go_wp2
      go_ret
      exact ⟨K, _, A, rfl, HP.out, HH.out, HO.out, HB.out⟩
    | succ j =>
      have hj : ((j + 1 : Nat) : Int) - 1 = (j : Int) := by omega
      rw [hj]
      have hw1 : IntKind.i64.wrap ((j : Int) - 1) = (j : Int) - 1 := IntWalk.i64_in _ (by have := HL.out; omega)
      have h0 : (0 : Int) ≤ (j : Int) := by omega
      have cS := sink_any HBet.out j HO.out (HBet.out.keep w wr HEV.out HB.out.size fun i hi _ => HB.out.block i hi) (fun i hi hb => by have h1 := HLT.out i hb; rcases hi with e | e <;> first | (have := HO.out.base; omega) | (have := (HO.out.row.lt i e.symm).1; omega)) (sk_start HH.out) (by have := HL.out; omega)
      clear hj
      go_wp2_with fail
      refine cS.mono ?_
      rintro e w5 ⟨rfl, A', hp5, hh5, ho5, hk5⟩
      have HP5 := Lib.hid hp5; have HH5 := Lib.hid hh5; have HO5 := Lib.hid ho5; have HK5 := Lib.hid hk5
      clear hp5 hh5 ho5 hk5 cS
      go_wp2
      go_roundw
      case rel => exact ⟨j, A', rfl, by omega, HP5.out.trans HP.out, HH5.out, HO5.out, (HB.out.trans ((HK5.out.below (B := w.heap.size) HB.out.size) fun k e => (HO.out.row.lt k e).1))⟩
      case measure => simp [intOf]
end Go.Proofs.YtnmacalbbmeedaaGreat
