/- HeapNone: of a nil heap, and of one without an order, nothing is got. -/
import Derived.Test.YtnonkhnajloloaaHeapAwW
import Derived.Test.YtnonkhnajloloaaItArg
namespace Go.Proofs.Ytnonkhnajloloaa
open Go.RowKit Go.Shelf
open Go.Sort (grow grow_empty grow_grow alloc_eq_grow heap_grow_old)
variable {w w' : World} {B K : Nat} {fv v : Value} {A : List It} {pu pk : Int} {bt : It → It → Bool}

set_option maxRecDepth 100000 in
theorem push_nil (x : It) (w : World) : Calls Try.prog 11 #[.pointer none, itV x] w fun e w' => e = .returned (.tuple #[]) ∧ Grown w w' := by
  have HG := Lib.hid (alloc_grown w (.cells #[.int .i64 x.1, .int .i64 x.2] 32))
  unfold itV
  go_enter Try.func11, Try.ntmps11
  go_wp2
  refine bodyPost_ret (results_none rfl _ _ _) rfl ?_
  exact ⟨rfl, HG.out⟩
set_option maxRecDepth 100000 in
theorem push_bare (x : It) (h : Hp w B K .nilFunc v A pu pk) : Calls Try.prog 11 #[.pointer (some ⟨K, 0, none⟩), itV x] w fun e w' => e = .returned (.tuple #[]) ∧ Grown w w' := by
  have HG := Lib.hid (alloc_grown w (.cells #[.int .i64 x.1, .int .i64 x.2] 32))
  obtain ⟨c0, _, _, _⟩ := (h.grown HG.out).cells
  have hff := Try.noFn
  unfold itV
  clear h
  go_enter Try.func11, Try.ntmps11
  go_wp2
  refine bodyPost_ret (results_none rfl _ _ _) rfl ?_
  exact ⟨rfl, HG.out⟩
set_option maxRecDepth 100000 in
theorem of_bare (x : Value) (w : World) : Calls Try.prog 19 #[.nilFunc, x] w fun e w' => e = .returned (.pointer (some ⟨w.heap.size, 0, none⟩)) ∧ Hp w' w.heap.size w.heap.size .nilFunc (.slice none 0 0) [] 0 0 ∧ Grown w w' := by
  have cN := hnew_none w
  have hff := Try.noFn
  go_enter Try.func19, Try.ntmps19
  go_wp2_with fail
  refine cN.mono ?_
  rintro e w1 ⟨rfl, rfl⟩
  have HH := Lib.hid (hp_new .nilFunc w)
  clear cN
  go_wp2
  go_ret
  exact ⟨rfl, HH.out, alloc_grown w _⟩
set_option maxRecDepth 100000 in
set_option maxHeartbeats 800000 in
theorem pop_nil (w : World) : Calls Try.prog 13 #[.pointer none] w fun e w' => e = .returned (topV (topOf [])) ∧ Below w.heap.size w w' := by
  obtain ⟨N, hN⟩ : ∃ N, w.heap.size = N := ⟨_, rfl⟩
  have HR := Lib.hid ((Grown.refl w).alloc (.cells #[.int .i64 0, .int .i64 0] 32))
  have HN := Lib.hid (BoxI.new w 0 0)
  rw [hN] at HN
  have cT := top_nil (w.alloc (.cells #[.int .i64 0, .int .i64 0] 32))
  unfold topV topOf itV at cT
  go_enter Try.func13, Try.ntmps13
  go_wp2_with fail
  refine cT.mono ?_
  rintro e w2 ⟨rfl, hg⟩
  have HG : Hid (Grown w (w2.alloc (.cells #[.int .i64 0, .int .i64 0] 32))) := Lib.hid ((HR.out.trans hg).alloc _)
  have HB3 : Hid (BoxI (w2.alloc (.cells #[.int .i64 0, .int .i64 0] 32)) N 0 0) := Lib.hid (HN.out.grown (hg.alloc _))
  obtain ⟨n0, n1, n2, n3⟩ := HB3.out.cells
  clear hg cT
  go_wp2
  have h1 := heap_setCell_at HB3.out.heap (i := 0) (.int .i64 0)
  have h2 := heap_setCell_at h1 (i := 1) (.int .i64 0)
  have x0 := cell_of_row _ N 0 _ 32 (0, 0) h2
  have x1 := cell_of_row _ N 1 _ 32 (0, 0) h2
  refine bodyPost_ret (v := topV (topOf [])) (by rw [results_cell_tmp rfl]; simp [go_sem, topV, topOf, itV, x0, x1]) rfl ?_
  have hb := HG.out.below
  have hb2 := (hb.setCell (p := ⟨N, 0, none⟩) (by rw [hN]; exact Nat.le_refl _) (.int .i64 0)).setCell (p := ⟨N, 1, none⟩) (by rw [hN]; exact Nat.le_refl _) (.int .i64 0)
  exact ⟨rfl, by first | exact hb2 | (rw [← hN]; exact hb2)⟩
set_option maxRecDepth 100000 in
theorem BoxI.below {N : Nat} {x y : Int} (h : BoxI w N x y) (k : Below w.heap.size w w') : BoxI w' N x y := ⟨(k.block N h.lt).trans h.heap⟩
set_option maxRecDepth 100000 in
set_option maxHeartbeats 4000000 in
theorem heapNone_walk (x y : Int) (w : World) (_ : FitsIts [(x, y)]) : Calls Try.prog 5 #[.agg #[.int .i64 x, .int .i64 y]] w fun e w' => e = .returned (.bool true) ∧ Below w.heap.size w w' := by
  obtain ⟨N, hN⟩ : ∃ N, w.heap.size = N := ⟨_, rfl⟩
  obtain ⟨w1, hw1⟩ : ∃ w1, w.alloc (.cells #[.int .i64 x, .int .i64 y] 32) = w1 := ⟨_, rfl⟩
  have hb1 : Below w.heap.size w w1 := by rw [← hw1]; exact (Below.refl _ w).alloc (Nat.le_refl _) _
  have hx1 : BoxI w1 N x y := by rw [← hw1, ← hN]; exact BoxI.new w x y
  have HB1 := Lib.hid hb1; have HX1 := Lib.hid hx1
  have cA := awake_any w1
  clear hb1 hx1
  go_enter Try.func5, Try.ntmps5
  go_wp2_with fail
  refine cA.mono ?_
  rintro e w2 ⟨rfl, hb2⟩
  have HX2 := Lib.hid (HX1.out.below hb2)
  have HB2 := Lib.hid (HB1.out.trans (hb2.mono HB1.out.size))
  obtain ⟨a0, a1, _, _⟩ := HX2.out.cells
  have cP := push_nil (x, y) w2
  unfold itV at cP
  clear cA hb2 hw1
  go_wp2_with fail
  refine cP.mono ?_
  rintro e w3 ⟨rfl, hg3⟩
  have HX3 := Lib.hid (HX2.out.grown hg3)
  have HB3 := Lib.hid (HB2.out.trans (hg3.below.mono HB2.out.size))
  obtain ⟨b0, b1, _, _⟩ := HX3.out.cells
  clear cP hg3 a0 a1
  obtain ⟨w4, hw4⟩ : ∃ w4, w3.alloc (.cells #[.int .i64 x, .int .i64 y, .int .i64 x, .int .i64 y] 32) = w4 := ⟨_, rfl⟩
  have hb4 : Below w3.heap.size w3 w4 := by rw [← hw4]; exact (Below.refl _ w3).alloc (Nat.le_refl _) _
  have HX4 := Lib.hid (HX3.out.below hb4)
  have HB4 := Lib.hid (HB3.out.trans (hb4.mono HB3.out.size))
  have cO := of_bare (.slice (some ⟨w3.heap.size, 0, none⟩) 2 2) w4
  obtain ⟨K, hK⟩ : ∃ K, w4.heap.size = K := ⟨_, rfl⟩
  rw [hK] at cO
  clear hb4
  go_wp2_with fail
  refine cO.mono ?_
  rintro e w5 ⟨rfl, hp5, hg5⟩
  have HP5 := Lib.hid hp5
  have HX5 := Lib.hid (HX4.out.grown hg5)
  have HB5 := Lib.hid (HB4.out.trans (hg5.below.mono HB4.out.size))
  obtain ⟨d0, d1, _, _⟩ := HX5.out.cells
  have cP := push_bare (x, y) hp5
  unfold itV at cP
  clear cO hp5 hg5 b0 b1 hw4 hK
  go_wp2_with fail
  refine cP.mono ?_
  rintro e w6 ⟨rfl, hg6⟩
  have HP6 := Lib.hid (HP5.out.grown hg6)
  have HB6 := Lib.hid (HB5.out.trans (hg6.below.mono HB5.out.size))
  have cQ := pop_nil w6
  unfold topV topOf itV at cQ
  clear cP hg6 d0 d1
  go_wp2_with fail
  refine cQ.mono ?_
  rintro e w7 ⟨rfl, hb7⟩
  obtain ⟨M1, hM1⟩ : ∃ M1, w7.heap.size = M1 := ⟨_, rfl⟩
  have HZ7 : Hid (BoxI (w7.alloc (.cells #[.int .i64 0, .int .i64 0] 32)) M1 0 0) := Lib.hid (by rw [← hM1]; exact BoxI.new w7 0 0)
  have hb8 : Below w6.heap.size w6 (w7.alloc (.cells #[.int .i64 0, .int .i64 0] 32)) := hb7.alloc hb7.size _
  have HP8 := Lib.hid (HP6.out.below hb8)
  have HB8 := Lib.hid (HB6.out.trans (hb8.mono HB6.out.size))
  have cT := top_any HP8.out
  unfold topV topOf itV at cT
  clear cQ hb7 hb8
  go_wp2_with fail
  refine cT.mono ?_
  rintro e w9 ⟨rfl, hg9⟩
  obtain ⟨M2, hM2⟩ : ∃ M2, w9.heap.size = M2 := ⟨_, rfl⟩
  have HZ9 : Hid (BoxI (w9.alloc (.cells #[.int .i64 0, .int .i64 0] 32)) M1 0 0) := Lib.hid (HZ7.out.grown (hg9.alloc _))
  have HY9 : Hid (BoxI (w9.alloc (.cells #[.int .i64 0, .int .i64 0] 32)) M2 0 0) := Lib.hid (by rw [← hM2]; exact BoxI.new w9 0 0)
  have HP9 := Lib.hid (HP8.out.grown (hg9.alloc (.cells #[.int .i64 0, .int .i64 0] 32)))
  have HB9 : Hid (Below w.heap.size w (w9.alloc (.cells #[.int .i64 0, .int .i64 0] 32))) := Lib.hid (HB8.out.trans ((hg9.alloc _).below.mono HB8.out.size))
  have cQ := pop_none HP9.out
  unfold topV topOf itV at cQ
  clear cT hg9
  go_wp2_with fail
  refine cQ.mono ?_
  rintro e w10 ⟨rfl, hp10, hb10⟩
  obtain ⟨M3, hM3⟩ : ∃ M3, w10.heap.size = M3 := ⟨_, rfl⟩
  have hb11 : Below (w9.alloc (.cells #[.int .i64 0, .int .i64 0] 32)).heap.size (w9.alloc (.cells #[.int .i64 0, .int .i64 0] 32)) (w10.alloc (.cells #[.int .i64 0, .int .i64 0] 32)) := hb10.alloc hb10.size _
  obtain ⟨s0, s1, _, _⟩ := (HZ9.out.below hb11).cells
  obtain ⟨t0, t1, _, _⟩ := (HY9.out.below hb11).cells
  have hu := BoxI.new w10 0 0
  rw [hM3] at hu
  obtain ⟨u0, u1, _, _⟩ := hu.cells
  have hp11 := hp10.below ((Below.refl _ w10).alloc (Nat.le_refl _) (.cells #[.int .i64 0, .int .i64 0] 32))
  have HB11 := Lib.hid (HB9.out.trans (hb11.mono HB9.out.size))
  have k1 := hlen_nil (w10.alloc (.cells #[.int .i64 0, .int .i64 0] 32))
  have k2 := hpushes_nil (w10.alloc (.cells #[.int .i64 0, .int .i64 0] 32))
  have k3 := hpeak_nil (w10.alloc (.cells #[.int .i64 0, .int .i64 0] 32))
  have k4 := hlen_any hp11
  have k5 := hpushes_any hp11
  have k6 := hpeak_any hp11
  clear cQ hb10 hb11 hu hp10 hp11
  go_wp2_with fail
  refine k1.mono ?_
  rintro e W ⟨rfl, rfl⟩
  go_wp2_with fail
  refine k2.mono ?_
  rintro e W ⟨rfl, rfl⟩
  go_wp2_with fail
  refine k3.mono ?_
  rintro e W ⟨rfl, rfl⟩
  go_wp2_with fail
  refine k4.mono ?_
  rintro e W ⟨rfl, rfl⟩
  go_wp2_with fail
  refine k5.mono ?_
  rintro e W ⟨rfl, rfl⟩
  go_wp2_with fail
  refine k6.mono ?_
  rintro e W ⟨rfl, rfl⟩
  go_wp2
  go_ret
  exact ⟨rfl, HB11.out⟩
end Go.Proofs.Ytnonkhnajloloaa
