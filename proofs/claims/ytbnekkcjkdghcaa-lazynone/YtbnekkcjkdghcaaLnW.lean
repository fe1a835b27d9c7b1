/- LazyNone: nil queues; nothing is taken without what is live. -/
import Derived.Test.YtbnekkcjkdghcaaLnR
import Derived.Test.YtbnekkcjkdghcaaLzAwake
import Derived.Test.YtbnekkcjkdghcaaPairArg
import Derived.OpenShut
namespace Go.Proofs.Ytbnekkcjkdghcaa
open Go.RowKit Go.Maps Go.Shelf
open Go.Sort (grow grow_empty grow_grow alloc_eq_grow heap_grow_old)

set_option maxRecDepth 100000 in
theorem stats_eql (w : World) : (binOp .eql 36 (.agg #[.int .i64 0, .int .i64 0, .int .i64 0, .int .i64 0, .int .i64 0, .int .i64 0]) (.agg #[.int .i64 0, .int .i64 0, .int .i64 0, .int .i64 0, .int .i64 0, .int .i64 0])).run Try.prog w = .ok (.bool true) w := by kernel_rfl
set_option maxRecDepth 100000 in
set_option maxHeartbeats 8000000 in
theorem lazyNone_walk (a b n : Int) (w : World) (hp : FitsPr (a, b)) (hnw : (Lit.int .i64 n).wf = true) : Calls Try.prog 5 #[.agg #[.int .i64 a, .int .i64 b], .int .i64 n] w fun e w' => e = .returned (.bool true) ∧ Below w.heap.size w w' := by
  have hn2 : FitsN n := bounds_i64 hnw
  obtain ⟨N, hN⟩ : ∃ N, w.heap.size = N := ⟨_, rfl⟩
  obtain ⟨wa, hwa⟩ : ∃ wa, w.alloc (.cells #[.int .i64 a, .int .i64 b] 41) = wa := ⟨_, rfl⟩
  obtain ⟨wb, hwb⟩ : ∃ wb, wa.alloc (.cells #[.int .i64 n] 3) = wb := ⟨_, rfl⟩
  have za : wa.heap.size = N + 1 := by rw [← hwa, World.size_alloc, hN]
  have zb : wb.heap.size = N + 2 := by rw [← hwb, World.size_alloc, za]
  have ga : Grown w wa := by rw [← hwa]; exact (Grown.refl w).alloc _
  have gb : Grown w wb := by rw [← hwb]; exact ga.alloc _
  have hba : wb.heap[N]? = some (.cells #[.int .i64 a, .int .i64 b] 41 (0, 0)) := by rw [← hwb]; exact (Below.heap_alloc _ _ _ (by omega)).trans (by rw [← hwa, ← hN]; exact heap_alloc_new w _)
  have hbb : wb.heap[N + 1]? = some (.cells #[.int .i64 n] 3 (0, 0)) := by rw [← hwb, ← za]; exact heap_alloc_new wa _
  have HB0 : Hid (Below w.heap.size w wb) := Lib.hid gb.below
  have HBX : Hid (∀ W, Below wb.heap.size wb W → W.cell? ⟨N, 0, none⟩ = some (.int .i64 a) ∧ W.cell? ⟨N, 1, none⟩ = some (.int .i64 b) ∧ W.cell? ⟨N + 1, 0, none⟩ = some (.int .i64 n)) := Lib.hid fun W h => by
    have h1 := (h.block N (by omega)).trans hba
    have h2 := (h.block (N + 1) (by omega)).trans hbb
    exact ⟨by rw [cell_of_row W N _ _ 41 (0, 0) h1]; rfl, by rw [cell_of_row W N _ _ 41 (0, 0) h1]; rfl, by rw [cell_of_row W (N + 1) _ _ 3 (0, 0) h2]; rfl⟩
  have HZB := Lib.hid (And.intro zb hN)
  have cA := awake_any wb
  have hze := item_eql_yes 0 0 0
  have hse := stats_eql
  clear ga gb hba hbb zb
  go_enter Try.func5, Try.ntmps5
  go_wp2_with fail
  refine cA.mono ?_
  rintro e w1 ⟨rfl, hb1⟩
  obtain ⟨c0, c1, c2⟩ := HBX.out w1 hb1
  have HB1 := Lib.hid hb1
  clear hb1 cA
  go_wp2_with fail
  refine (lput_nil a b n w1).mono ?_
  rintro e w2 ⟨rfl, hg2⟩
  have HB2 : Hid (Below wb.heap.size wb w2) := Lib.hid (HB1.out.trans (hg2.below.mono HB1.out.size))
  clear hg2 c0 c1 c2
  go_wp2_with fail
  refine (lpop_nil _ w2).mono ?_
  rintro e w3 ⟨rfl, hg3⟩
  have HB3 : Hid (Below wb.heap.size wb w3) := Lib.hid (HB2.out.trans (hg3.below.mono HB2.out.size))
  clear hg3
  obtain ⟨M, hM⟩ : ∃ M, w3.heap.size = M := ⟨_, rfl⟩
  obtain ⟨wx, hwx⟩ : ∃ wx, w3.alloc (.cells #[.int .i64 0, .int .i64 0, .int .i64 0] 48) = wx := ⟨_, rfl⟩
  have HWX := Lib.hid hwx
  have hgx : Grown w3 wx := by rw [← hwx]; exact (Grown.refl w3).alloc _
  have hbM : wx.heap[M]? = some (.cells #[.int .i64 0, .int .i64 0, .int .i64 0] 48 (0, 0)) := by rw [← hwx, ← hM]; exact heap_alloc_new w3 _
  have HBx : Hid (Below wb.heap.size wb wx) := Lib.hid (HB3.out.trans (hgx.below.mono HB3.out.size))
  have HMX : Hid (∀ W, Below wx.heap.size wx W → (W.cell? ⟨M, 0, none⟩ = some (.int .i64 0) ∧ W.cell? ⟨M, 1, none⟩ = some (.int .i64 0) ∧ W.cell? ⟨M, 2, none⟩ = some (.int .i64 0))) := Lib.hid fun W h => by
    have h1 := (h.block M (Array.getElem?_eq_some_iff.1 hbM).1).trans hbM
    refine ⟨?_, ?_, ?_⟩ <;> · rw [cell_of_row W M _ _ 48 (0, 0) h1]; rfl
  have HSX : Hid (M < wx.heap.size) := Lib.hid (Array.getElem?_eq_some_iff.1 hbM).1
  have cS := snew_any wx
  obtain ⟨wt, hwt⟩ : ∃ wt, wx.alloc (.cells #[.slice none 0 0, .map none] 70) = wt := ⟨_, rfl⟩
  rw [hwt] at cS
  have hst : Stab wt wx.heap.size (.slice none 0 0) none [] := by rw [← hwt]; exact new_stab wx
  have HBt : Hid (Below wx.heap.size wx wt) := Lib.hid (by rw [← hwt]; exact (Below.refl _ wx).alloc (Nat.le_refl _) _)
  have cN := lnew_any _ _ _ _ wt hst (by simp)
  clear hst hwt hgx hbM hwx
  unfold popV itemV
  simp only
  go_wp2_with fail
  rw [HWX.out]
  refine cS.mono ?_
  rintro e w4 ⟨rfl, rfl⟩
  go_wp2_with fail
  refine cN.mono ?_
  rintro e w5 ⟨K, H, c, m, rfl, hz, hb5, hS⟩
  have hbx5 : Below wx.heap.size wx w5 := HBt.out.trans (hb5.mono HBt.out.size)
  obtain ⟨d0, d1, d2⟩ := HBX.out w5 (HBx.out.trans (hbx5.mono HBx.out.size))
  have cF := lput_first a b n hz hp hn2
  have HSM : Hid (∀ k, mineL K H m (.slice none 0 0) k → wx.heap.size ≤ k) := Lib.hid fun k hk => by have := hS k (.inl hk); have := HBt.out.size; omega
  have HB5 := Lib.hid hbx5
  clear cS cN hz hb5 hS hbx5
  go_wp2_with fail
  refine cF.mono ?_
  rintro e w6 ⟨rfl, hz6, hk6⟩
  have HZ6 := Lib.hid hz6
  have HB6 : Hid (Below wx.heap.size wx w6) := Lib.hid (HB5.out.trans (hk6.below HB5.out.size HSM.out))
  clear cF hz6 hk6 d0 d1 d2
  go_wp2_with fail
  refine (lpop_nolive K w6).mono ?_
  rintro e w7 ⟨rfl, hg7⟩
  have hz7 := HZ6.out.grown hg7
  have hb7 : Below wx.heap.size wx w7 := HB6.out.trans (hg7.below.mono HB6.out.size)
  obtain ⟨M2, hM2⟩ : ∃ M2, w7.heap.size = M2 := ⟨_, rfl⟩
  have hg8 : Grown w7 (w7.alloc (.cells #[.int .i64 0, .int .i64 0, .int .i64 0] 48)) := (Grown.refl w7).alloc _
  have HZ8 := Lib.hid (hz7.grown hg8)
  have HB8 : Hid (Below wx.heap.size wx (w7.alloc (.cells #[.int .i64 0, .int .i64 0, .int .i64 0] 48))) := Lib.hid (hb7.trans (hg8.below.mono hb7.size))
  obtain ⟨_, _, d2⟩ := HBX.out _ (HBx.out.trans (HB8.out.mono HBx.out.size))
  obtain ⟨x0, x1, x2⟩ := HMX.out _ HB8.out
  have hbY : (w7.alloc (.cells #[.int .i64 0, .int .i64 0, .int .i64 0] 48)).heap[M2]? = some (.cells #[.int .i64 0, .int .i64 0, .int .i64 0] 48 (0, 0)) := by rw [← hM2]; exact heap_alloc_new w7 _
  have HY : Hid (∀ W, Grown (w7.alloc (.cells #[.int .i64 0, .int .i64 0, .int .i64 0] 48)) W → W.cell? ⟨M2, 0, none⟩ = some (.int .i64 0) ∧ W.cell? ⟨M2, 1, none⟩ = some (.int .i64 0) ∧ W.cell? ⟨M2, 2, none⟩ = some (.int .i64 0)) := Lib.hid fun W h => by
    have h1 := (h.below.block M2 (Array.getElem?_eq_some_iff.1 hbY).1).trans hbY
    refine ⟨?_, ?_, ?_⟩ <;> · rw [cell_of_row W M2 _ _ 48 (0, 0) h1]; rfl
  clear hg7 hz7 hb7 hg8 hbY
  unfold popV itemV
  simp only
  by_cases hn : 1 ≤ n
  · have hh := haveN_yes (n := n) (by omega)
    rw [hh] at HZ8
    clear hh
    go_wp2_with fail
    refine (llen_nil _).mono ?_
    rintro e w8 ⟨rfl, rfl⟩
    go_wp2_with fail
    refine (lknown_nil _).mono ?_
    rintro e w8 ⟨rfl, rfl⟩
    go_wp2_with fail
    refine (lstats_nil _).mono ?_
    rintro e w8 ⟨rfl, hg9⟩
    obtain ⟨y0, y1, y2⟩ := HY.out w8 hg9
    have cE := clen_any (HZ8.out.grown hg9)
    have cK := cknown_any (HZ8.out.grown hg9)
    have HEND : Hid (Below w.heap.size w w8) := Lib.hid (HB0.out.trans ((HBx.out.trans ((HB8.out.trans (hg9.below.mono HB8.out.size)).mono HBx.out.size)).mono HB0.out.size))
    clear hg9
    unfold statsV
    go_wp2_with fail
    refine cE.mono ?_
    rintro e w10 ⟨rfl, rfl⟩
    go_wp2_with fail
    refine cK.mono ?_
    rintro e w10 ⟨rfl, rfl⟩
    go_wp2
    go_ret
    exact ⟨rfl, HEND.out⟩
  · have hh := haveN_no (n := n) (by omega)
    rw [hh] at HZ8
    clear hh
    go_wp2_with fail
    refine (llen_nil _).mono ?_
    rintro e w8 ⟨rfl, rfl⟩
    go_wp2_with fail
    refine (lknown_nil _).mono ?_
    rintro e w8 ⟨rfl, rfl⟩
    go_wp2_with fail
    refine (lstats_nil _).mono ?_
    rintro e w8 ⟨rfl, hg9⟩
    obtain ⟨y0, y1, y2⟩ := HY.out w8 hg9
    have cE := clen_any (HZ8.out.grown hg9)
    have cK := cknown_any (HZ8.out.grown hg9)
    have HEND : Hid (Below w.heap.size w w8) := Lib.hid (HB0.out.trans ((HBx.out.trans ((HB8.out.trans (hg9.below.mono HB8.out.size)).mono HBx.out.size)).mono HB0.out.size))
    clear hg9
    unfold statsV
    go_wp2_with fail
    refine cE.mono ?_
    rintro e w10 ⟨rfl, rfl⟩
    go_wp2_with fail
    refine cK.mono ?_
    rintro e w10 ⟨rfl, rfl⟩
    go_wp2
    go_ret
    exact ⟨rfl, HEND.out⟩
end Go.Proofs.Ytbnekkcjkdghcaa
