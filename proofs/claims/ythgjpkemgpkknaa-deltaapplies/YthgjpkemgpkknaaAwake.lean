/- The document's example. -/
import Derived.Test.YthgjpkemgpkknaaObjs
namespace Go.Proofs.Ythgjpkemgpkknaa
open Go.RowKit Go.Maps

set_option maxHeartbeats 2000000 in
theorem awake_any (w : World) : Calls Try.prog 6 #[] w fun e w' => e = .returned (.bool true) ∧ Below w.heap.size w w' := by
  have hf : FitsPr (97, 98) := by unfold FitsPr; simp
  have f2 : FitsZ 2 := by unfold FitsZ; omega
  have f3 : FitsZ 3 := by unfold FitsZ; omega
  have fm : FitsZ (-2) := by unfold FitsZ; omega
  have cN := new_any w
  obtain ⟨w1, hw1⟩ : ∃ w1, w1 = w.alloc (.cells #[.map none] 52) := ⟨_, rfl⟩
  have HO1 : Hid (Own1 w w.heap.size [] w1) := Lib.hid (by rw [hw1]; exact Own1.new (Below.refl _ w))
  rw [← hw1] at cN
  obtain ⟨K, hK⟩ : ∃ K, w.heap.size = K := ⟨_, rfl⟩
  have HK := Lib.hid hK
  rw [hK] at cN
  obtain ⟨bx, hbx⟩ : ∃ bx, w1.heap.size = bx := ⟨_, rfl⟩
  obtain ⟨w2, hw2⟩ : ∃ w2, w2 = w1.alloc (.cells #[.int .i64 97, .int .i64 98] 24) := ⟨_, rfl⟩
  have HO2 : Hid (Own1 w K [] w2) := Lib.hid (by rw [hw2, ← hK]; exact HO1.out.later ((Below.refl _ w1).alloc (Nat.le_refl _) _))
  have HX2 : Hid (w2.heap[bx]? = some (.cells #[.int .i64 97, .int .i64 98] 24 (0, 0))) := Lib.hid (by rw [hw2, ← hbx]; exact heap_alloc_new w1 _)
  have hw' := hw2.symm
  obtain ⟨b0, b1⟩ := box_cells HX2.out
  have cA := addO HO2.out hf f2 f3 (by simp)
  rw [add_eg1] at cA
  clear hw1 hw2 hK
  go_enter Try.func6, Try.ntmps6
  go_wp2_with fail
  refine cN.mono ?_
  rintro e w1' ⟨rfl, rfl⟩
  go_wp2_with fail
  clear hw' hbx
  refine cA.mono ?_
  rintro e w3 ⟨rfl, h3, hb3⟩
  have HO3 := Lib.hid h3
  have HX3 := Lib.hid (hb3 _ _ _ HX2.out)
  clear h3 hb3 cA b0 b1
  obtain ⟨b0, b1⟩ := box_cells HX3.out
  have cG := getO HO3.out hf
  rw [show getC [((97, 98), 6)] (97, 98) = 6 from rfl] at cG
  go_wp2_with fail
  refine cG.mono ?_
  rintro e w4 ⟨rfl, h4⟩
  have HO4 := Lib.hid (HO3.out.later h4)
  have HX4 := Lib.hid (Box24.of_below h4 _ _ _ HX3.out)
  clear h4 cG b0 b1
  obtain ⟨b0, b1⟩ := box_cells HX4.out
  have cA := addO HO4.out hf fm f3 (by simp)
  rw [add_eg2] at cA
  go_wp2_with fail
  refine cA.mono ?_
  rintro e w5 ⟨rfl, h5, hb5⟩
  have HO5 := Lib.hid h5
  clear h5 hb5 cA b0 b1
  have cL := lenO HO5.out
  rw [show ((([] : Cn).length : Nat) : Int) = 0 from rfl] at cL
  go_wp2_with fail
  refine cL.mono ?_
  rintro e w6 ⟨rfl, rfl⟩
  go_wp2
  go_ret
  exact ⟨rfl, HO5.out.bel⟩
end Go.Proofs.Ythgjpkemgpkknaa
