/- DeltaNone, walked. -/
import Derived.Test.YthgjpkemgpkknaaAwake
import Derived.Test.YthgjpkemgpkknaaPairArg
namespace Go.Proofs.Ythgjpkemgpkknaa
open Go.RowKit Go.Maps

theorem apply_nil (v : Value) (t : Int) (w : World) : Calls Try.prog 15 #[.pointer none, v, .int .i64 t] w fun e w' => e = .returned (.tuple #[.slice none 0 0, .int .i64 1]) ∧ w' = w.alloc (.cells #[.pointer none] 26) := by
  go_enter Try.func15, Try.ntmps15
  go_wp2
  go_ret2
  exact ⟨rfl, rfl⟩
theorem none_eg1 (p : Int × Int) {a t : Int} (ha : 0 ≤ a ∧ a ≤ 65535) (ht : 0 ≤ t ∧ t ≤ 65535) : addC [] p a t = (setC [] p (a * t), 0) := by
  have h1 : 0 ≤ a * t := Int.mul_nonneg ha.1 ht.1
  have h2 : a * t ≤ 65535 * 65535 := Int.mul_le_mul ha.2 ht.2 ht.1 (by omega)
  have hm : movOf (getC [] p) a t = (a * t, true) := by
    show movOf 0 a t = _
    unfold movOf
    rw [if_pos ha.1, mulOf_yes ha.1 ht.1 (by omega), cond_true, addOf_yes (by omega) h1 (by omega)]
    simp
  unfold addC
  rw [if_neg (by omega), hm]
  rfl
theorem del_set (p : Int × Int) (n : Int) : delC (setC [] p n) p = [] := by
  unfold setC
  split
  · rfl
  · simp [insC, delC]
theorem none_eg2 (p : Int × Int) {a t : Int} (ha : 0 ≤ a ∧ a ≤ 65535) (ht : 0 ≤ t ∧ t ≤ 65535) : addC (setC [] p (a * t)) p (-a) t = ([], 0) := by
  have h1 : 0 ≤ a * t := Int.mul_nonneg ha.1 ht.1
  have h2 : a * t ≤ 65535 * 65535 := Int.mul_le_mul ha.2 ht.2 ht.1 (by omega)
  have hg : getC (setC [] p (a * t)) p = a * t := by rw [get_set List.Pairwise.nil, if_pos rfl]
  have hm : movOf (a * t) (-a) t = (0, true) := by
    unfold movOf
    by_cases h0 : a = 0
    · subst h0
      rw [if_pos (by omega)]
      simp only [Int.neg_zero, Int.zero_mul]
      rw [mulOf_yes (by omega) ht.1 (by simp), cond_true]
      simp [addOf]
    · have hn : negW (-a) = a := by unfold negW; rw [if_neg (by omega)]; omega
      rw [if_neg (by omega), hn, mulOf_yes ha.1 ht.1 (by omega), cond_true, if_pos (Int.le_refl _)]
      simp
  unfold addC
  rw [if_neg (by omega), hg, hm]
  simp only [cond_true]
  unfold setC at *
  rw [if_pos rfl]
  have := del_set p (a * t)
  unfold setC at this
  rw [this]
set_option maxRecDepth 100000 in
set_option maxHeartbeats 4000000 in
theorem deltaNone_walk (p q a t : Int) (w : World) (hp : FitsPr (p, q)) (ha : 0 ≤ a ∧ a ≤ 65535) (ht : 0 ≤ t ∧ t ≤ 65535) :
    Calls Try.prog 5 #[.agg #[.int .i64 p, .int .i64 q], .int .u16 a, .int .u16 t] w fun e w' => e = .returned (.bool true) ∧ Below w.heap.size w w' := by
  have h1 : 0 ≤ a * t := Int.mul_nonneg ha.1 ht.1
  have h2 : a * t ≤ 65535 * 65535 := Int.mul_le_mul ha.2 ht.2 ht.1 (by omega)
  have hmul : IntKind.i64.wrap (a * t) = a * t := by rw [IntKind.wrap_i64]; omega
  have hneg : IntKind.i64.wrap (-a) = -a := by rw [IntKind.wrap_i64]; omega
  have fa : FitsZ a := ⟨by omega, by omega⟩
  have fn : FitsZ (-a) := ⟨by omega, by omega⟩
  have ft : FitsZ t := ⟨by omega, by omega⟩
  obtain ⟨bx, hbx⟩ : ∃ bx, w.heap.size = bx := ⟨_, rfl⟩
  obtain ⟨w1, hw1⟩ : ∃ w1, w1 = w.alloc (.cells #[.int .i64 p, .int .i64 q] 24) := ⟨_, rfl⟩
  have HB1 : Hid (Below w.heap.size w w1) := Lib.hid (by rw [hw1]; exact (Below.refl _ w).alloc (Nat.le_refl _) _)
  have HX1 : Hid (w1.heap[bx]? = some (.cells #[.int .i64 p, .int .i64 q] 24 (0, 0))) := Lib.hid (by rw [hw1, ← hbx]; exact heap_alloc_new w _)
  have hw' := hw1.symm
  have E1 := Lib.hid (none_eg1 (p, q) ha ht)
  have E2 := Lib.hid (none_eg2 (p, q) ha ht)
  have E3 : Hid (getC (setC [] (p, q) (a * t)) (p, q) = a * t) := Lib.hid (by rw [get_set List.Pairwise.nil, if_pos rfl])
  clear hw1 h1 h2
  go_enter Try.func5, Try.ntmps5
  go_wp2_with fail
  clear hw' hbx
  refine (awake_any w1).mono ?_
  rintro e w2 ⟨rfl, h2⟩
  have HB2 : Hid (Below w.heap.size w w2) := Lib.hid (HB1.out.trans (h2.mono HB1.out.size))
  have HX2 := Lib.hid (Box24.of_below h2 _ _ _ HX1.out)
  clear h2
  obtain ⟨b0, b1⟩ := box_cells HX2.out
  obtain ⟨w3, hw3⟩ : ∃ w3, w3 = w2.alloc (.cells #[.int .i64 p, .int .i64 q, .int .i64 1] 36) := ⟨_, rfl⟩
  have H3 : Hid (Below w2.heap.size w2 w3) := Lib.hid (by rw [hw3]; exact (Below.refl _ w2).alloc (Nat.le_refl _) _)
  have hw3' := hw3.symm
  clear hw3
  go_wp2_with fail
  refine (apply_nil _ 1 w3).mono ?_
  rintro e w4 ⟨rfl, hw4⟩
  have H4 : Hid (Below w2.heap.size w2 w4) := Lib.hid (by rw [hw4]; exact H3.out.alloc H3.out.size _)
  have HB4 : Hid (Below w.heap.size w w4) := Lib.hid (HB2.out.trans (H4.out.mono HB2.out.size))
  have HX4 := Lib.hid (Box24.of_below H4.out _ _ _ HX2.out)
  clear hw4 hw3' b0 b1
  obtain ⟨b0, b1⟩ := box_cells HX4.out
  go_wp2_with fail
  refine (cadd_nil p q 1 1 w4).mono ?_
  rintro e w5 ⟨rfl, hw5⟩
  have H5 : Hid (Below w4.heap.size w4 w5) := Lib.hid (by rw [hw5]; exact (Below.refl _ w4).alloc (Nat.le_refl _) _)
  have HB5 : Hid (Below w.heap.size w w5) := Lib.hid (HB4.out.trans (H5.out.mono HB4.out.size))
  have HX5 := Lib.hid (Box24.of_below H5.out _ _ _ HX4.out)
  clear hw5 b0 b1
  obtain ⟨b0, b1⟩ := box_cells HX5.out
  go_wp2_with fail
  refine (get_nil p q w5).mono ?_
  rintro e w6 ⟨rfl, hw6⟩
  have H6 : Hid (Below w5.heap.size w5 w6) := Lib.hid (by rw [hw6]; exact (Below.refl _ w5).alloc (Nat.le_refl _) _)
  have HB6 : Hid (Below w.heap.size w w6) := Lib.hid (HB5.out.trans (H6.out.mono HB5.out.size))
  have HX6 := Lib.hid (Box24.of_below H6.out _ _ _ HX5.out)
  clear hw6 b0 b1
  obtain ⟨b0, b1⟩ := box_cells HX6.out
  go_wp2_with fail
  refine (len_nil' w6).mono ?_
  rintro e w7 ⟨rfl, rfl⟩
  go_wp2_with fail
  refine (all_nil w7).mono ?_
  rintro e w8 ⟨rfl, rfl⟩
  obtain ⟨K, hK⟩ : ∃ K, w8.heap.size = K := ⟨_, rfl⟩
  obtain ⟨w9, hw9⟩ : ∃ w9, w9 = w8.alloc (.cells #[.map none] 52) := ⟨_, rfl⟩
  have H9 : Hid (Below w8.heap.size w8 w9) := Lib.hid (by rw [hw9]; exact (Below.refl _ w8).alloc (Nat.le_refl _) _)
  have HO9 : Hid (Own1 w K [] w9) := Lib.hid (by rw [hw9, ← hK]; exact Own1.new HB6.out)
  have HX9 := Lib.hid (Box24.of_below H9.out _ _ _ HX6.out)
  obtain ⟨x0, x1⟩ := box_cells HX9.out
  have hw9' := hw9.symm
  clear hw9
  have cA := addO HO9.out hp fa ft (by simp)
  rw [E1.out] at cA
  go_wp2_with fail
  clear hw9' b0 b1
  refine cA.mono ?_
  rintro e wa ⟨rfl, ha1, hb1⟩
  have HOa := Lib.hid ha1
  have HXa := Lib.hid (hb1 _ _ _ HX9.out)
  clear ha1 hb1 cA x0 x1 hK
  obtain ⟨b0, b1⟩ := box_cells HXa.out
  have cG := getO HOa.out hp
  simp only [E3.out] at cG
  go_wp2_with fail
  refine cG.mono ?_
  rintro e wb ⟨rfl, hb⟩
  have HOb := Lib.hid (HOa.out.later hb)
  have HXb := Lib.hid (Box24.of_below hb _ _ _ HXa.out)
  clear hb cG b0 b1
  obtain ⟨b0, b1⟩ := box_cells HXb.out
  have cA := addO HOb.out hp fn ft (by have := set_len (L := []) List.Pairwise.nil (p, q) (a * t); simp at this ⊢; omega)
  simp only [E2.out] at cA
  go_wp2_with fail
  refine cA.mono ?_
  rintro e wc ⟨rfl, hc1, hc2⟩
  have HOc := Lib.hid hc1
  have HXc := Lib.hid (hc2 _ _ _ HXb.out)
  clear hc1 hc2 cA b0 b1
  obtain ⟨b0, b1⟩ := box_cells HXc.out
  have cG := getO HOc.out hp
  rw [show getC [] (p, q) = 0 from rfl] at cG
  go_wp2_with fail
  refine cG.mono ?_
  rintro e wd ⟨rfl, hd⟩
  have HOd := Lib.hid (HOc.out.later hd)
  clear hd cG b0 b1
  have cL := lenO HOd.out
  rw [show ((([] : Cn).length : Nat) : Int) = 0 from rfl] at cL
  go_wp2_with fail
  refine cL.mono ?_
  rintro e we ⟨rfl, rfl⟩
  go_wp2
  go_ret
  exact ⟨rfl, HOd.out.bel⟩
end Go.Proofs.Ythgjpkemgpkknaa
