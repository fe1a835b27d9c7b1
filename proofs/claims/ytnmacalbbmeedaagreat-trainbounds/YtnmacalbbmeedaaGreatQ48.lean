/- Texts in one: TlStats, TlTr. -/
import Derived.Test.YtnmacalbbmeedaaGreatQ45
import Derived.BigRegion
import Derived.Test.YtnmacalbbmeedaaGreatQ47
/- What a learner has counted. -/
namespace Go.Proofs.YtnmacalbbmeedaaGreat
open Go.RowKit Go.Maps Go.Shelf

variable {w w' : World} {S : Nat → Prop} {Kx Kq T N K : Nat} {J : List Joint} {M : Mdl} {q : Qm} {L : Bag} {b d ps c : Int} {ms : List Mg}
abbrev statsO (a b c d e f : Int) : Obj := .cells #[.int .i64 a, .int .i64 b, .int .i64 c, .int .i64 d, .int .i64 e, .int .i64 f] 29 (0, 0)
set_option maxRecDepth 100000 in
set_option maxHeartbeats 4000000 in
theorem tlstats_any (h : Tr3 w S Kx Kq T N J M q) (hbox : w.heap[K]? = some (lrnV Kx T Kq b d ps c)) :
    Calls Tryz.prog 16 #[.pointer (some ⟨K, 0, none⟩)] w fun e w' => e = .returned (stV ⟨ps, c, q.pu, q.po, q.pk, q.re⟩) ∧ Below w.heap.size w w' := by
  obtain ⟨Nr, hNr⟩ : ∃ n, w.heap.size = n := ⟨_, rfl⟩
  obtain ⟨wa, hwa⟩ : ∃ wa, w.alloc (.cells #[.int .i64 0, .int .i64 0, .int .i64 0, .int .i64 0, .int .i64 0, .int .i64 0] 29) = wa := ⟨_, rfl⟩
  have hga : Grown w wa := by rw [← hwa]; exact (Grown.refl w).alloc _
  have hbr : wa.heap[Nr]? = some (statsO 0 0 0 0 0 0) := by rw [← hwa, ← hNr]; exact heap_alloc_new w _
  have hKlt := (Array.getElem?_eq_some_iff.1 hbox).1
  have hKa := (hga.below.block K hKlt).trans hbox
  have z6 := (lrnC hKa).qu
  have cS := t3_stats (h.below hga.below)
  obtain ⟨a1, ha1⟩ : ∃ x, q.pu = x := ⟨_, rfl⟩
  obtain ⟨a2, ha2⟩ : ∃ x, q.po = x := ⟨_, rfl⟩
  obtain ⟨a3, ha3⟩ : ∃ x, q.pk = x := ⟨_, rfl⟩
  obtain ⟨a4, ha4⟩ : ∃ x, q.re = x := ⟨_, rfl⟩
  rw [ha1, ha2, ha3, ha4] at cS ⊢
  unfold statsV at cS
  have HGA := Lib.hid hga; have HBR := Lib.hid hbr; have HKA := Lib.hid hKa; have HNR := Lib.hid hNr
  clear h hbox hga hbr hKa hKlt ha1 ha2 ha3 ha4
  go_enter Tryz.func16, Tryz.ntmps16
  go_wp2_with fail
  refine cS.mono ?_
  rintro e w1 ⟨rfl, hg1⟩
  have hK1lt := Nat.lt_of_lt_of_le (Array.getElem?_eq_some_iff.1 HKA.out).1 hg1.below.size
  have hK1 := (hg1.below.block K (Array.getElem?_eq_some_iff.1 HKA.out).1).trans HKA.out
  have hr1 := (hg1.below.block Nr (Array.getElem?_eq_some_iff.1 HBR.out).1).trans HBR.out
  have hr1lt := (Array.getElem?_eq_some_iff.1 hr1).1
  obtain ⟨Nl, hNl⟩ : ∃ n, w1.heap.size = n := ⟨_, rfl⟩
  obtain ⟨w2, hw2⟩ : ∃ w2, w1.alloc (.cells #[.int .i64 0, .int .i64 0, .int .i64 0, .int .i64 0, .int .i64 0, .int .i64 0] 29) = w2 := ⟨_, rfl⟩
  have HG1 := Lib.hid hg1
  have HW2 := Lib.hid hw2; have HNL := Lib.hid hNl
  have hg2 : Grown w1 w2 := by rw [← hw2]; exact (Grown.refl w1).alloc _
  have hl2 : w2.heap[Nl]? = some (statsO 0 0 0 0 0 0) := by rw [← hw2, ← hNl]; exact heap_alloc_new w1 _
  have hK2 := (hg2.below.block K hK1lt).trans hK1
  have hr2 := (hg2.below.block Nr hr1lt).trans hr1
  have hKl : K < Nl := by rw [← hNl]; exact hK1lt
  have hrl : Nr < Nl := by rw [← hNl]; exact hr1lt
  have n0 : w2.cell? ⟨Nl, 0, none⟩ = some (.int .i64 0) := by rw [cell_of_row w2 Nl _ _ _ (0, 0) hl2]; rfl
  have n1 : w2.cell? ⟨Nl, 1, none⟩ = some (.int .i64 0) := by rw [cell_of_row w2 Nl _ _ _ (0, 0) hl2]; rfl
  have n2 : w2.cell? ⟨Nl, 2, none⟩ = some (.int .i64 0) := by rw [cell_of_row w2 Nl _ _ _ (0, 0) hl2]; rfl
  have n3 : w2.cell? ⟨Nl, 3, none⟩ = some (.int .i64 0) := by rw [cell_of_row w2 Nl _ _ _ (0, 0) hl2]; rfl
  have n4 : w2.cell? ⟨Nl, 4, none⟩ = some (.int .i64 0) := by rw [cell_of_row w2 Nl _ _ _ (0, 0) hl2]; rfl
  have n5 : w2.cell? ⟨Nl, 5, none⟩ = some (.int .i64 0) := by rw [cell_of_row w2 Nl _ _ _ (0, 0) hl2]; rfl
  have m0 : w2.frozen? ⟨Nl, 0, none⟩ = false := Lib.frozen_of_heap hl2 _
  have m1 : w2.frozen? ⟨Nl, 1, none⟩ = false := Lib.frozen_of_heap hl2 _
  have m2 : w2.frozen? ⟨Nl, 2, none⟩ = false := Lib.frozen_of_heap hl2 _
  have m3 : w2.frozen? ⟨Nl, 3, none⟩ = false := Lib.frozen_of_heap hl2 _
  have m4 : w2.frozen? ⟨Nl, 4, none⟩ = false := Lib.frozen_of_heap hl2 _
  have m5 : w2.frozen? ⟨Nl, 5, none⟩ = false := Lib.frozen_of_heap hl2 _
  have HL2 := Lib.hid hl2; have HK2 := Lib.hid hK2; have HR2 := Lib.hid hr2; have HLT := Lib.hid (And.intro hKl hrl)
  have HB2 : Hid (Below w.heap.size w w2) := Lib.hid ((HGA.out.trans (hg1.trans hg2)).below)
  have HNW : Hid (w.heap.size ≤ Nr ∧ w.heap.size ≤ Nl) := Lib.hid (by have := HNR.out; exact ⟨by omega, by omega⟩)
  clear cS hg1 z6 hg2 hl2 hK2 hr2 hK1 hr1 hK1lt hr1lt hKl hrl
  go_wp2_with fail
  obtain ⟨w3, hw3⟩ : ∃ w3, ((((((w2.setCell ⟨Nl, 0, none⟩ (.int .i64 0)).setCell ⟨Nl, 1, none⟩ (.int .i64 0)).setCell ⟨Nl, 2, none⟩ (.int .i64 a1)).setCell ⟨Nl, 3, none⟩ (.int .i64 a2)).setCell ⟨Nl, 4, none⟩ (.int .i64 a3)).setCell ⟨Nl, 5, none⟩ (.int .i64 a4)) = w3 := ⟨_, rfl⟩
  have hl3 : w3.heap[Nl]? = some (statsO 0 0 a1 a2 a3 a4) := by
    rw [← hw3]
    have h0 := heap_setCell_at HL2.out (i := 0) (.int .i64 0)
    have h1 := heap_setCell_at h0 (i := 1) (.int .i64 0)
    have h2 := heap_setCell_at h1 (i := 2) (.int .i64 a1)
    have h3 := heap_setCell_at h2 (i := 3) (.int .i64 a2)
    have h4 := heap_setCell_at h3 (i := 4) (.int .i64 a3)
    exact heap_setCell_at h4 (i := 5) (.int .i64 a4)
  have hk3 : Kept (fun k => k = Nl) w2 w3 := by
    rw [← hw3]
    exact ((((((Kept.refl (fun k => k = Nl) w2).setCell ⟨Nl, 0, none⟩ _ fun _ => rfl).setCell ⟨Nl, 1, none⟩ _ fun _ => rfl).setCell ⟨Nl, 2, none⟩ _ fun _ => rfl).setCell ⟨Nl, 3, none⟩ _ fun _ => rfl).setCell ⟨Nl, 4, none⟩ _ fun _ => rfl).setCell ⟨Nl, 5, none⟩ _ fun _ => rfl
  rw [hw3]
  have hK3 := (hk3.block K (Array.getElem?_eq_some_iff.1 HK2.out).1 (by have := HLT.out.1; omega)).trans HK2.out
  have hr3 := (hk3.block Nr (Array.getElem?_eq_some_iff.1 HR2.out).1 (by have := HLT.out.2; omega)).trans HR2.out
  have HB3 : Hid (Below w.heap.size w w3) := Lib.hid (Below.kept HB2.out hk3 (fun i e => by have := HNW.out.2; omega) HB2.out.size)
  have c2 := (lrnC hK3).po
  have c3 := (lrnC hK3).ro
  have x0 : w3.cell? ⟨Nl, 0, none⟩ = some (.int .i64 0) := by rw [cell_of_row w3 Nl _ _ _ (0, 0) hl3]; rfl
  have x1 : w3.cell? ⟨Nl, 1, none⟩ = some (.int .i64 0) := by rw [cell_of_row w3 Nl _ _ _ (0, 0) hl3]; rfl
  have y0 : w3.frozen? ⟨Nl, 0, none⟩ = false := Lib.frozen_of_heap hl3 _
  have y1 : w3.frozen? ⟨Nl, 1, none⟩ = false := Lib.frozen_of_heap hl3 _
  have hne : ¬ K = Nl := by have := HLT.out.1; omega
  have hne2 : ¬ Nl = K := by have := HLT.out.1; omega
  have HL3 := Lib.hid hl3; have HR3 := Lib.hid hr3
  clear n0 n1 n2 n3 n4 n5 m0 m1 m2 m3 m4 m5 hl3 hr3 hK3 hk3 hw3
  go_cut [] from 22 (fun wx => wx.heap[Nl]? = some (statsO ps c a1 a2 a3 a4) ∧ wx.heap[Nr]? = some (statsO 0 0 0 0 0 0) ∧ Below w.heap.size w wx)
  case first =>
    go_region
    have q0 := heap_setCell_at HL3.out (i := 0) (.int .i64 ps)
    have q1 := heap_setCell_at q0 (i := 1) (.int .i64 c)
    have hkp : Kept (fun k => k = Nl) w3 ((w3.setCell ⟨Nl, 0, none⟩ (.int .i64 ps)).setCell ⟨Nl, 1, none⟩ (.int .i64 c)).drew := (((Kept.refl (fun k => k = Nl) w3).setCell ⟨Nl, 0, none⟩ _ fun _ => rfl).setCell ⟨Nl, 1, none⟩ _ fun _ => rfl).drew
    have hb := Below.kept HB3.out hkp (fun i e => by have e : i = Nl := e; have := HNW.out.2; omega) HB3.out.size
    have hr := (hkp.block Nr (Array.getElem?_eq_some_iff.1 HR3.out).1 (by have := HLT.out.2; omega)).trans HR3.out
    go_wp2_with fail
    go_meet
    exact ⟨q1, hr, hb⟩
  case rest =>
    obtain ⟨g1, g2, g3⟩ := hcut
    have x0 : wc.cell? ⟨Nl, 0, none⟩ = some (.int .i64 ps) := by rw [cell_of_row wc Nl _ _ _ (0, 0) g1]; rfl
    have x1 : wc.cell? ⟨Nl, 1, none⟩ = some (.int .i64 c) := by rw [cell_of_row wc Nl _ _ _ (0, 0) g1]; rfl
    have x2 : wc.cell? ⟨Nl, 2, none⟩ = some (.int .i64 a1) := by rw [cell_of_row wc Nl _ _ _ (0, 0) g1]; rfl
    have x3 : wc.cell? ⟨Nl, 3, none⟩ = some (.int .i64 a2) := by rw [cell_of_row wc Nl _ _ _ (0, 0) g1]; rfl
    have x4 : wc.cell? ⟨Nl, 4, none⟩ = some (.int .i64 a3) := by rw [cell_of_row wc Nl _ _ _ (0, 0) g1]; rfl
    have x5 : wc.cell? ⟨Nl, 5, none⟩ = some (.int .i64 a4) := by rw [cell_of_row wc Nl _ _ _ (0, 0) g1]; rfl
    have n0 : wc.cell? ⟨Nr, 0, none⟩ = some (.int .i64 0) := by rw [cell_of_row wc Nr _ _ _ (0, 0) g2]; rfl
    have n1 : wc.cell? ⟨Nr, 1, none⟩ = some (.int .i64 0) := by rw [cell_of_row wc Nr _ _ _ (0, 0) g2]; rfl
    have n2 : wc.cell? ⟨Nr, 2, none⟩ = some (.int .i64 0) := by rw [cell_of_row wc Nr _ _ _ (0, 0) g2]; rfl
    have n3 : wc.cell? ⟨Nr, 3, none⟩ = some (.int .i64 0) := by rw [cell_of_row wc Nr _ _ _ (0, 0) g2]; rfl
    have n4 : wc.cell? ⟨Nr, 4, none⟩ = some (.int .i64 0) := by rw [cell_of_row wc Nr _ _ _ (0, 0) g2]; rfl
    have n5 : wc.cell? ⟨Nr, 5, none⟩ = some (.int .i64 0) := by rw [cell_of_row wc Nr _ _ _ (0, 0) g2]; rfl
    have m0 : wc.frozen? ⟨Nr, 0, none⟩ = false := Lib.frozen_of_heap g2 _
    have m1 : wc.frozen? ⟨Nr, 1, none⟩ = false := Lib.frozen_of_heap g2 _
    have m2 : wc.frozen? ⟨Nr, 2, none⟩ = false := Lib.frozen_of_heap g2 _
    have m3 : wc.frozen? ⟨Nr, 3, none⟩ = false := Lib.frozen_of_heap g2 _
    have m4 : wc.frozen? ⟨Nr, 4, none⟩ = false := Lib.frozen_of_heap g2 _
    have m5 : wc.frozen? ⟨Nr, 5, none⟩ = false := Lib.frozen_of_heap g2 _
    have G2 := Lib.hid g2; have G3 := Lib.hid g3
    clear g1 g2 g3
    go_wp2
    have h0 := heap_setCell_at G2.out (i := 0) (.int .i64 ps)
    have h1 := heap_setCell_at h0 (i := 1) (.int .i64 c)
    have h2 := heap_setCell_at h1 (i := 2) (.int .i64 a1)
    have h3 := heap_setCell_at h2 (i := 3) (.int .i64 a2)
    have h4 := heap_setCell_at h3 (i := 4) (.int .i64 a3)
    have h5 := heap_setCell_at h4 (i := 5) (.int .i64 a4)
    have y0 := cell_of_row _ Nr 0 _ 29 (0, 0) h5
    have y1 := cell_of_row _ Nr 1 _ 29 (0, 0) h5
    have y2 := cell_of_row _ Nr 2 _ 29 (0, 0) h5
    have y3 := cell_of_row _ Nr 3 _ 29 (0, 0) h5
    have y4 := cell_of_row _ Nr 4 _ 29 (0, 0) h5
    have y5 := cell_of_row _ Nr 5 _ 29 (0, 0) h5
    refine bodyPost_ret (v := stV ⟨ps, c, a1, a2, a3, a4⟩) (by rw [results_cell1z rfl]; simp [go_sem, stV, y0, y1, y2, y3, y4, y5]) rfl ?_
    have hle : w.heap.size ≤ Nr := HNW.out.1
    exact ⟨rfl, (((((G3.out.setCell (p := ⟨Nr, 0, none⟩) hle _).setCell (p := ⟨Nr, 1, none⟩) hle _).setCell (p := ⟨Nr, 2, none⟩) hle _).setCell (p := ⟨Nr, 3, none⟩) hle _).setCell (p := ⟨Nr, 4, none⟩) hle _).setCell (p := ⟨Nr, 5, none⟩) hle _⟩
/-! Of none. -/
set_option maxRecDepth 100000 in
theorem tlstats_nil (w : World) : Calls Tryz.prog 16 #[.pointer none] w fun e w' => e = .returned (stV noS) ∧ Below w.heap.size w w' := by
  obtain ⟨Nr, hNr⟩ : ∃ n, w.heap.size = n := ⟨_, rfl⟩
  obtain ⟨wa, hwa⟩ : ∃ wa, w.alloc (.cells #[.int .i64 0, .int .i64 0, .int .i64 0, .int .i64 0, .int .i64 0, .int .i64 0] 29) = wa := ⟨_, rfl⟩
  have hbr : wa.heap[Nr]? = some (statsO 0 0 0 0 0 0) := by rw [← hwa, ← hNr]; exact heap_alloc_new w _
  have HB : Hid (Below w.heap.size w wa) := Lib.hid (by rw [← hwa]; exact (Below.refl _ _).alloc (Nat.le_refl _) _)
  have HNR := Lib.hid hNr; have HBR := Lib.hid hbr
  have n0 : wa.cell? ⟨Nr, 0, none⟩ = some (.int .i64 0) := by rw [cell_of_row wa Nr _ _ _ (0, 0) hbr]; rfl
  have n1 : wa.cell? ⟨Nr, 1, none⟩ = some (.int .i64 0) := by rw [cell_of_row wa Nr _ _ _ (0, 0) hbr]; rfl
  have n2 : wa.cell? ⟨Nr, 2, none⟩ = some (.int .i64 0) := by rw [cell_of_row wa Nr _ _ _ (0, 0) hbr]; rfl
  have n3 : wa.cell? ⟨Nr, 3, none⟩ = some (.int .i64 0) := by rw [cell_of_row wa Nr _ _ _ (0, 0) hbr]; rfl
  have n4 : wa.cell? ⟨Nr, 4, none⟩ = some (.int .i64 0) := by rw [cell_of_row wa Nr _ _ _ (0, 0) hbr]; rfl
  have n5 : wa.cell? ⟨Nr, 5, none⟩ = some (.int .i64 0) := by rw [cell_of_row wa Nr _ _ _ (0, 0) hbr]; rfl
  have m0 : wa.frozen? ⟨Nr, 0, none⟩ = false := Lib.frozen_of_heap hbr _
  have m1 : wa.frozen? ⟨Nr, 1, none⟩ = false := Lib.frozen_of_heap hbr _
  have m2 : wa.frozen? ⟨Nr, 2, none⟩ = false := Lib.frozen_of_heap hbr _
  have m3 : wa.frozen? ⟨Nr, 3, none⟩ = false := Lib.frozen_of_heap hbr _
  have m4 : wa.frozen? ⟨Nr, 4, none⟩ = false := Lib.frozen_of_heap hbr _
  have m5 : wa.frozen? ⟨Nr, 5, none⟩ = false := Lib.frozen_of_heap hbr _
  clear hbr
  go_enter Tryz.func16, Tryz.ntmps16
  go_wp2
  have h0 := heap_setCell_at HBR.out (i := 0) (.int .i64 0)
  have h1 := heap_setCell_at h0 (i := 1) (.int .i64 0)
  have h2 := heap_setCell_at h1 (i := 2) (.int .i64 0)
  have h3 := heap_setCell_at h2 (i := 3) (.int .i64 0)
  have h4 := heap_setCell_at h3 (i := 4) (.int .i64 0)
  have h5 := heap_setCell_at h4 (i := 5) (.int .i64 0)
  have x0 := cell_of_row _ Nr 0 _ 29 (0, 0) h5
  have x1 := cell_of_row _ Nr 1 _ 29 (0, 0) h5
  have x2 := cell_of_row _ Nr 2 _ 29 (0, 0) h5
  have x3 := cell_of_row _ Nr 3 _ 29 (0, 0) h5
  have x4 := cell_of_row _ Nr 4 _ 29 (0, 0) h5
  have x5 := cell_of_row _ Nr 5 _ 29 (0, 0) h5
  refine bodyPost_ret (v := stV noS) (by rw [results_cell1z rfl]; simp [go_sem, stV, noS, x0, x1, x2, x3, x4, x5]) rfl ?_
  have hle : w.heap.size ≤ Nr := Nat.le_of_eq HNR.out
  exact ⟨rfl, (((((HB.out.setCell (p := ⟨Nr, 0, none⟩) hle _).setCell (p := ⟨Nr, 1, none⟩) hle _).setCell (p := ⟨Nr, 2, none⟩) hle _).setCell (p := ⟨Nr, 3, none⟩) hle _).setCell (p := ⟨Nr, 4, none⟩) hle _).setCell (p := ⟨Nr, 5, none⟩) hle _⟩
end Go.Proofs.YtnmacalbbmeedaaGreat
/- The program's Learn; a learner as the laws ask for it. -/
namespace Go.Proofs.YtnmacalbbmeedaaGreat
open Go.RowKit Go.Maps Go.Shelf

set_option maxRecDepth 100000 in
/-- Three results, of which the second one lies in memory. -/
theorem results_tct {fn : Func} {a p c : Tmp} {ty : TypeId} (h : fn.results = #[.tmp a, .cell p ty, .tmp c]) (tmps : Array Value) (P : Program) (w : World) :
    (results fn tmps).run P w = ((asAddr (tmps.getD p undef)).run P w).andThen fun ad w₁ => ((loadVar ty ad).run P w₁).andThen fun y w₂ => .ok (.tuple #[tmps.getD a undef, y, tmps.getD c undef]) w₂ := by
  simp only [results, h]
  simp [Sem.run_bind, Result.andThen]
  done
variable {L : Bag} {b d : Int}
set_option maxRecDepth 100000 in
theorem lrn_ok (hB : bytesOf L ≤ 300) (hL : L.length ≤ 60) (hb : 0 ≤ b ∧ b ≤ 1048576) (hd : 1 ≤ d) : LrnOk (LrnO L b d) L b d where
  kept h hk hs := h.kept hk hs
  lt h := h.lt
  step h := tlstep_any h hB hL hb hd
  stats h := by
    obtain ⟨Kx, Kq, T, N, J, M, q, S0, h1, h2, h3, h4, h5, h6, h7⟩ := h
    refine (tlstats_any h2 h1).mono ?_
    rintro e w' ⟨rfl, hb⟩
    exact ⟨_, rfl, h3.bound, hb⟩
  words h := by
    obtain ⟨Kx, Kq, T, N, J, M, q, S0, h1, h2, h3, h4, h5, h6, h7⟩ := h
    exact tlwords_any h2 h3 h1 hB hL
  merges h := by
    obtain ⟨Kx, Kq, T, N, J, M, q, S0, h1, h2, h3, h4, h5, h6, h7⟩ := h
    have hsm := h3.small hB
    refine (tlmerges_any h2 h1 (by have := hsm.jl; have := hsm.few; omega)).mono ?_
    rintro e w' ⟨r, rfl, ho, hb⟩
    rw [h3.st.made] at ho
    exact ⟨r, rfl, ho.reads, hb⟩
set_option maxRecDepth 100000 in
theorem tNews : TNews LrnO := fun x L b d lim w hx hL hf hby _ _ _ => by
  refine (tlnew_any x L b d lim w hx hL hf hby).mono ?_
  rintro e w' ⟨hb, h | ⟨h0, K, S, rfl, hO, hS⟩⟩
  · exact ⟨hb, .inl h⟩
  · obtain ⟨_, hbb, hd⟩ := err_none h0
    exact ⟨hb, .inr ⟨h0, K, S, rfl, lrn_ok hby hL hbb hd, hO, hS⟩⟩
/-! The loop of Learn. -/
def bnV : Value → Nat
  | .bool true => 1
  | _ => 0
def rnV (K : Nat) (W : World) : Nat := match W.cell? ⟨K, 3, none⟩ with
  | some (.int _ c) => c.toNat
  | _ => 0
set_option maxRecDepth 100000 in
theorem LrnO.rounds {w : World} {S : Nat → Prop} {K : Nat} {ms : List Mg} (h : LrnO L b d w S K ms) : rnV K w = ms.length := by
  obtain ⟨Kx, Kq, T, N, J, M, q, S0, h1, h2, h3, h4, h5, h6, h7⟩ := h
  unfold rnV
  rw [(lrnC h1).ro]
  simp
set_option maxRecDepth 100000 in
theorem LrnO.few {w : World} {S : Nat → Prop} {K : Nat} {ms : List Mg} (h : LrnO L b d w S K ms) (hB : bytesOf L ≤ 300) : ms.length ≤ 300 := by
  obtain ⟨Kx, Kq, T, N, J, M, q, S0, h1, h2, h3, h4, h5, h6, h7⟩ := h
  exact (h3.small hB).few
def EndT (L : Bag) (b d : Int) (ms : List Mg) : Prop := (ms.length : Int) = max b 0 ∨ ∃ m n, BestRel (runT (startW L) ms) (countsOf L) m n ∧ n < d
set_option maxRecDepth 100000 in
theorem LrnO.learned {w : World} {S : Nat → Prop} {K : Nat} {ms : List Mg} (h : LrnO L b d w S K ms) (he : EndT L b d ms) : Learned (startW L) (countsOf L) b d ms := by
  obtain ⟨Kx, Kq, T, N, J, M, q, S0, h1, h2, h3, h4, h5, h6, h7⟩ := h
  exact ⟨h3.st.each, h4, he⟩
def LnRel (L : Bag) (b d : Int) (K : Nat) (w : World) (x : Value) (wr : World) : Prop :=
  ∃ S ms, LrnO L b d wr S K ms ∧ (x = .bool true ∨ (x = .bool false ∧ EndT L b d ms)) ∧ (∀ k, S k → w.heap.size ≤ k) ∧ Below w.heap.size w wr
def SwRet (L : Bag) (b d : Int) (K : Nat) (w wr : World) (e : Ending) (w' : World) : Prop :=
  ∃ m1 m2 ok, e = .returned (.tuple #[.agg #[.string m1, .string m2], .bool ok]) ∧ LnRel L b d K w (.bool ok) w' ∧ (400 - rnV K w') + (if ok then 1 else 0) < 400 - rnV K wr + 1
set_option maxRecDepth 100000 in
theorem LnRel.step {K : Nat} {w wr : World} {x : Value} (h : LnRel L b d K w x wr) (hB : bytesOf L ≤ 300) (hL : L.length ≤ 60) (hb : 0 ≤ b ∧ b ≤ 1048576) (hd : 1 ≤ d) : Calls Tryz.prog 14 #[.pointer (some ⟨K, 0, none⟩)] wr (SwRet L b d K w wr) := by
  obtain ⟨S, ms, h1, _, h3, h4⟩ := h
  refine (tlstep_any h1 hB hL hb hd).mono ?_
  rintro e w' ⟨S', hst, hcase⟩
  have hlow : ∀ k, S' k → w.heap.size ≤ k := fun k hk => by
    by_cases e : k < wr.heap.size
    · exact h3 k (hst.out k hk e)
    · have := h4.size; omega
  have hbl : Below w.heap.size w w' := Below.kept h4 hst.kept h3 h4.size
  have hr := h1.rounds
  have hf := h1.few hB
  rcases hcase with ⟨m, n, h5, h6, h7, rfl, h8⟩ | ⟨h5, rfl, h8⟩
  · refine ⟨m.1, m.2, true, rfl, ⟨S', _, h8, .inl rfl, hlow, hbl⟩, ?_⟩
    have hr2 := h8.rounds
    rw [List.length_append, List.length_singleton] at hr2
    rw [hr, hr2]
    simp only [if_true]
    omega
  · refine ⟨_, _, false, rfl, ⟨S', _, h8, .inr ⟨rfl, h5⟩, hlow, hbl⟩, ?_⟩
    rw [hr, h8.rounds]
    simp
set_option maxRecDepth 100000 in
theorem nilT_own {w : World} {base : Nat} {v : Value} {ms : List Mg} (h : ownE mergeE w base v ms) : nilNone v ∧ ∀ a n c, v = .slice a n c → n ≤ c := by
  refine ⟨h.nilNone, ?_⟩
  obtain ⟨a, c, rfl, hc⟩ := h.form
  intro a' n' c' e
  cases e
  exact hc
set_option maxRecDepth 100000 in
/-- A box of what is counted, filled. -/
theorem stats_six {W : World} {M1 : Nat} (h : W.heap[M1]? = some (statsO 0 0 0 0 0 0)) (a1 a2 a3 a4 a5 a6 : Int) : ∃ W', ((((((W.setCell ⟨M1, 0, none⟩ (.int .i64 a1)).setCell ⟨M1, 1, none⟩ (.int .i64 a2)).setCell ⟨M1, 2, none⟩ (.int .i64 a3)).setCell ⟨M1, 3, none⟩ (.int .i64 a4)).setCell ⟨M1, 4, none⟩ (.int .i64 a5)).setCell ⟨M1, 5, none⟩ (.int .i64 a6)) = W' ∧ W'.heap[M1]? = some (statsO a1 a2 a3 a4 a5 a6) ∧ Kept (fun k => k = M1) W W' := by
  have h0 := heap_setCell_at h (i := 0) (.int .i64 a1)
  have h1 := heap_setCell_at h0 (i := 1) (.int .i64 a2)
  have h2 := heap_setCell_at h1 (i := 2) (.int .i64 a3)
  have h3 := heap_setCell_at h2 (i := 3) (.int .i64 a4)
  have h4 := heap_setCell_at h3 (i := 4) (.int .i64 a5)
  have h5 := heap_setCell_at h4 (i := 5) (.int .i64 a6)
  exact ⟨_, rfl, h5, ((((((Kept.refl (fun k => k = M1) W).setCell ⟨M1, 0, none⟩ _ fun _ => rfl).setCell ⟨M1, 1, none⟩ _ fun _ => rfl).setCell ⟨M1, 2, none⟩ _ fun _ => rfl).setCell ⟨M1, 3, none⟩ _ fun _ => rfl).setCell ⟨M1, 4, none⟩ _ fun _ => rfl).setCell ⟨M1, 5, none⟩ _ fun _ => rfl⟩
set_option maxRecDepth 100000 in
set_option maxHeartbeats 8000000 in
theorem tlearn_any (x : Value) (L : Bag) (b d lim : Int) (w : World) (hx : wordsAt w x L) (hL : L.length ≤ 60) (hf : Fits L) (hby : bytesOf L ≤ 300) :
    Calls Tryz.prog 9 #[x, .agg #[.int .i64 b, .int .i64 d, .int .i64 lim]] w fun e w' => TlRet L b d lim w e w' := by
  obtain ⟨M0, hM0⟩ : ∃ M, w.heap.size = M := ⟨_, rfl⟩
  obtain ⟨wa, hwa⟩ : ∃ wa, w.alloc (.cells #[.int .i64 b, .int .i64 d, .int .i64 lim] 24) = wa := ⟨_, rfl⟩
  obtain ⟨M1, hM1⟩ : ∃ M, wa.heap.size = M := ⟨_, rfl⟩
  obtain ⟨wb, hwb⟩ : ∃ wb, wa.alloc (.cells #[.int .i64 0, .int .i64 0, .int .i64 0, .int .i64 0, .int .i64 0, .int .i64 0] 29) = wb := ⟨_, rfl⟩
  have hba : wa.heap[M0]? = some (.cells #[.int .i64 b, .int .i64 d, .int .i64 lim] 24 (0, 0)) := by rw [← hwa, ← hM0]; exact heap_alloc_new w _
  have h01 : Below w.heap.size w wa := by rw [← hwa]; exact (Below.refl _ w).alloc (Nat.le_refl _) _
  have h12 : Below wa.heap.size wa wb := by rw [← hwb]; exact (Below.refl _ wa).alloc (Nat.le_refl _) _
  have hbb : wb.heap[M1]? = some (statsO 0 0 0 0 0 0) := by rw [← hwb, ← hM1]; exact heap_alloc_new wa _
  have hba2 := (h12.block M0 (Array.getElem?_eq_some_iff.1 hba).1).trans hba
  have b0 : wb.cell? ⟨M0, 0, none⟩ = some (.int .i64 b) := by rw [cell_of_row wb M0 _ _ _ (0, 0) hba2]; rfl
  have b1 : wb.cell? ⟨M0, 1, none⟩ = some (.int .i64 d) := by rw [cell_of_row wb M0 _ _ _ (0, 0) hba2]; rfl
  have b2 : wb.cell? ⟨M0, 2, none⟩ = some (.int .i64 lim) := by rw [cell_of_row wb M0 _ _ _ (0, 0) hba2]; rfl
  have h02 : Below w.heap.size w wb := h01.trans (h12.mono h01.size)
  have cN := tlnew_any x L b d lim wb (hx.below h02 (Nat.le_refl _)) hL hf hby
  have HB2 := Lib.hid h02; have HBB := Lib.hid hbb
  have HM : Hid (w.heap.size ≤ M1) := Lib.hid (by rw [← hM1]; exact h01.size)
  have HFEW := Lib.hid (And.intro hby hL)
  have HM01 : Hid (w.heap.size = M0 ∧ wa.heap.size = M1) := Lib.hid ⟨hM0, hM1⟩
  obtain ⟨z, hz⟩ : ∃ z, errT L b d lim = z := ⟨_, rfl⟩
  rw [hz] at cN
  have HZ := Lib.hid hz
  clear hx hL hf hby hba h01 h12 hbb hba2 h02 hz
  go_enter Tryz.func9, Tryz.ntmps9
  go_wp2_with fail
  refine cN.mono ?_
  rintro e w3 ⟨hb3, hcase⟩
  have hbb3 := (hb3.block M1 (Array.getElem?_eq_some_iff.1 HBB.out).1).trans HBB.out
  have HB3 := Lib.hid (HB2.out.trans (hb3.mono HB2.out.size))
  clear cN b0 b1 b2
  rcases hcase with ⟨hne, rfl⟩ | ⟨rfl, K, S, rfl, hO, hS⟩
  · have hne1 : decide (z = 0) = false := decide_eq_false hne
    have hne2 : (z == 0) = false := by simpa using hne
    have hne3 : (z != 0) = true := by simpa using hne
    have HNE := Lib.hid hne
    have n0 : w3.cell? ⟨M1, 0, none⟩ = some (.int .i64 0) := by rw [cell_of_row w3 M1 _ _ _ (0, 0) hbb3]; rfl
    have n1 : w3.cell? ⟨M1, 1, none⟩ = some (.int .i64 0) := by rw [cell_of_row w3 M1 _ _ _ (0, 0) hbb3]; rfl
    have n2 : w3.cell? ⟨M1, 2, none⟩ = some (.int .i64 0) := by rw [cell_of_row w3 M1 _ _ _ (0, 0) hbb3]; rfl
    have n3 : w3.cell? ⟨M1, 3, none⟩ = some (.int .i64 0) := by rw [cell_of_row w3 M1 _ _ _ (0, 0) hbb3]; rfl
    have n4 : w3.cell? ⟨M1, 4, none⟩ = some (.int .i64 0) := by rw [cell_of_row w3 M1 _ _ _ (0, 0) hbb3]; rfl
    have n5 : w3.cell? ⟨M1, 5, none⟩ = some (.int .i64 0) := by rw [cell_of_row w3 M1 _ _ _ (0, 0) hbb3]; rfl
    have m0 : w3.frozen? ⟨M1, 0, none⟩ = false := Lib.frozen_of_heap hbb3 _
    have m1 : w3.frozen? ⟨M1, 1, none⟩ = false := Lib.frozen_of_heap hbb3 _
    have m2 : w3.frozen? ⟨M1, 2, none⟩ = false := Lib.frozen_of_heap hbb3 _
    have m3 : w3.frozen? ⟨M1, 3, none⟩ = false := Lib.frozen_of_heap hbb3 _
    have m4 : w3.frozen? ⟨M1, 4, none⟩ = false := Lib.frozen_of_heap hbb3 _
    have m5 : w3.frozen? ⟨M1, 5, none⟩ = false := Lib.frozen_of_heap hbb3 _
    have HBB3 := Lib.hid hbb3
    clear hne hbb3 hb3
    go_wp2
    obtain ⟨W', hW', hc, hk⟩ := stats_six HBB3.out 0 0 0 0 0 0
    rw [hW']
    have y0 := cell_of_row W' M1 0 _ 29 (0, 0) hc
    have y1 := cell_of_row W' M1 1 _ 29 (0, 0) hc
    have y2 := cell_of_row W' M1 2 _ 29 (0, 0) hc
    have y3 := cell_of_row W' M1 3 _ 29 (0, 0) hc
    have y4 := cell_of_row W' M1 4 _ 29 (0, 0) hc
    have y5 := cell_of_row W' M1 5 _ 29 (0, 0) hc
    refine bodyPost_ret (v := .tuple #[.slice none 0 0, stV noS, .int .i64 z]) (by rw [results_tct rfl]; simp [go_sem, stV, noS, y0, y1, y2, y3, y4, y5]) rfl ?_
    have hnil : ownE mergeE W' w.heap.size (.slice none 0 0) [] := ownE.nil _ _
    exact ⟨_, [], noS, by rw [HZ.out], hnil.reads, Below.kept HB3.out hk (fun i e => by have e : i = M1 := e; have := HM.out; omega) HB3.out.size, fun _ => ⟨rfl, rfl⟩, fun h => absurd (HZ.out.symm.trans h) HNE.out, nilT_own hnil⟩
  · have HST : Hid (LnRel L b d K wb (.bool true) w3) := Lib.hid ⟨S, [], hO, .inl rfl, hS, hb3⟩
    have HE := Lib.hid (err_none HZ.out)
    have HBB3 := Lib.hid hbb3
    have HL1 := Lib.hid (Array.getElem?_eq_some_iff.1 HBB.out).1
    clear hO hS hb3 hbb3
    go_wp2
    go_loopw [9] (fun x wr => LnRel L b d K wb x wr) (fun x wr => (400 - rnV K wr) + bnV x)
    case atStart => exact HST.out
    case round =>
      clear HST
      have HR := Lib.hid hrel
      obtain ⟨S1, ms, hO, hx, hlow, hbel⟩ := hrel
      have HO := Lib.hid hO
      rcases hx with rfl | ⟨rfl, hend⟩
      · have cS := HR.out.step HFEW.out.1 HFEW.out.2 HE.out.2.1 HE.out.2.2
        clear hO hlow hbel
        go_wp2_with fail
        refine cS.mono ?_
        rintro e w4 ⟨m1, m2, ok, rfl, hnx, hms⟩
        have HNX := Lib.hid hnx
        have HMS := Lib.hid hms
        clear cS hnx hms
        go_wp2
        go_roundw
        case rel => exact HNX.out
        case measure =>
          have h := HMS.out
          cases ok <;> simpa [bnV] using h
      · have HL : Hid (Learned (startW L) (countsOf L) b d ms) := Lib.hid (hO.learned hend)
        have HLOW := Lib.hid hlow
        have HBEL := Lib.hid hbel
        obtain ⟨Kx, Kq, T, N, J, M, q, S0, h1, h2, h3, h4, h5, h6, h7⟩ := hO
        have hsm := h3.small HFEW.out.1
        have cM := tlmerges_any h2 h1 (by have := hsm.jl; have := hsm.few; omega)
        rw [h3.st.made] at cM
        have HBX := Lib.hid h1; have HT := Lib.hid h2; have HBD := Lib.hid h3.bound
        have HKL := Lib.hid (Array.getElem?_eq_some_iff.1 h1).1
        have hbb4 := (hbel.block M1 HL1.out).trans HBB.out
        have HBB4 := Lib.hid hbb4
        clear h1 h2 h3 h4 h5 h6 h7 hsm hlow hbel hend hbb4
        go_wp2_with fail
        refine cM.mono ?_
        rintro e w5 ⟨r, rfl, ho, hb5⟩
        have HO5 := Lib.hid ho
        have HB5 := Lib.hid hb5
        have cX := tlstats_any (HT.out.below hb5) ((hb5.block K HKL.out).trans HBX.out)
        unfold stV at cX
        have hbb5 := (hb5.block M1 (Array.getElem?_eq_some_iff.1 HBB4.out).1).trans HBB4.out
        clear cM ho hb5
        go_wp2_with fail
        refine cX.mono ?_
        rintro e w6 ⟨rfl, hb6⟩
        have hbb6 := (hb6.block M1 (Array.getElem?_eq_some_iff.1 hbb5).1).trans hbb5
        have HBB6 := Lib.hid hbb6
        have HB6 := Lib.hid hb6
        have n0 : w6.cell? ⟨M1, 0, none⟩ = some (.int .i64 0) := by rw [cell_of_row w6 M1 _ _ _ (0, 0) hbb6]; rfl
        have n1 : w6.cell? ⟨M1, 1, none⟩ = some (.int .i64 0) := by rw [cell_of_row w6 M1 _ _ _ (0, 0) hbb6]; rfl
        have n2 : w6.cell? ⟨M1, 2, none⟩ = some (.int .i64 0) := by rw [cell_of_row w6 M1 _ _ _ (0, 0) hbb6]; rfl
        have n3 : w6.cell? ⟨M1, 3, none⟩ = some (.int .i64 0) := by rw [cell_of_row w6 M1 _ _ _ (0, 0) hbb6]; rfl
        have n4 : w6.cell? ⟨M1, 4, none⟩ = some (.int .i64 0) := by rw [cell_of_row w6 M1 _ _ _ (0, 0) hbb6]; rfl
        have n5 : w6.cell? ⟨M1, 5, none⟩ = some (.int .i64 0) := by rw [cell_of_row w6 M1 _ _ _ (0, 0) hbb6]; rfl
        have m0 : w6.frozen? ⟨M1, 0, none⟩ = false := Lib.frozen_of_heap hbb6 _
        have m1 : w6.frozen? ⟨M1, 1, none⟩ = false := Lib.frozen_of_heap hbb6 _
        have m2 : w6.frozen? ⟨M1, 2, none⟩ = false := Lib.frozen_of_heap hbb6 _
        have m3 : w6.frozen? ⟨M1, 3, none⟩ = false := Lib.frozen_of_heap hbb6 _
        have m4 : w6.frozen? ⟨M1, 4, none⟩ = false := Lib.frozen_of_heap hbb6 _
        have m5 : w6.frozen? ⟨M1, 5, none⟩ = false := Lib.frozen_of_heap hbb6 _
        obtain ⟨e1, he1⟩ : ∃ x, ms.length = x := ⟨_, rfl⟩
        obtain ⟨e2, he2⟩ : ∃ x, q.pu = x := ⟨_, rfl⟩
        obtain ⟨e3, he3⟩ : ∃ x, q.po = x := ⟨_, rfl⟩
        obtain ⟨e4, he4⟩ : ∃ x, q.pk = x := ⟨_, rfl⟩
        obtain ⟨e5, he5⟩ : ∃ x, q.re = x := ⟨_, rfl⟩
        rw [he1, he2, he3, he4, he5]
        have HEE := Lib.hid (And.intro he1 (And.intro he2 (And.intro he3 (And.intro he4 he5))))
        clear cX hb6 hbb5 hbb6 he1 he2 he3 he4 he5
        go_wp2
        obtain ⟨W', hW', hc, hk⟩ := stats_six HBB6.out (bytesOf L : Int) (e1 : Int) e2 e3 e4 e5
        rw [hW']
        have y0 := cell_of_row W' M1 0 _ 29 (0, 0) hc
        have y1 := cell_of_row W' M1 1 _ 29 (0, 0) hc
        have y2 := cell_of_row W' M1 2 _ 29 (0, 0) hc
        have y3 := cell_of_row W' M1 3 _ 29 (0, 0) hc
        have y4 := cell_of_row W' M1 4 _ 29 (0, 0) hc
        have y5 := cell_of_row W' M1 5 _ 29 (0, 0) hc
        refine bodyPost_ret (v := .tuple #[r, stV ⟨(bytesOf L : Int), (e1 : Int), e2, e3, e4, e5⟩, .int .i64 0]) (by rw [results_tct rfl]; simp [go_sem, stV, y0, y1, y2, y3, y4, y5]) rfl ?_
        have hbw : Below w.heap.size w wr := HB2.out.trans (HBEL.out.mono HB2.out.size)
        have hb5w : Below w.heap.size w w5 := hbw.trans (HB5.out.mono hbw.size)
        have hb6w : Below w.heap.size w w6 := hb5w.trans (HB6.out.mono hb5w.size)
        have hown : ownE mergeE W' wr.heap.size r ms := (HO5.out.below HB6.out).kept fun g hg => hk.block g ((HO5.out.below HB6.out).lt g hg).2 fun e => by
          have e : g = M1 := e
          have h1 := (HO5.out.lt g hg).1
          have h2 := HL1.out
          have h3 := HBEL.out.size
          omega
        obtain ⟨i1, i2, i3, i4, i5⟩ := HEE.out
        refine ⟨r, ms, ⟨(bytesOf L : Int), (e1 : Int), e2, e3, e4, e5⟩, by rw [HZ.out], hown.reads, Below.kept hb6w hk (fun i e => by have e : i = M1 := e; have := HM.out; omega) hb6w.size, fun h => absurd HZ.out h, fun _ => ⟨HL.out, ?_⟩, nilT_own hown⟩
        have hbd := HBD.out
        rw [i1, i2, i3, i4, i5] at hbd
        rw [i1]
        exact hbd
end Go.Proofs.YtnmacalbbmeedaaGreat
