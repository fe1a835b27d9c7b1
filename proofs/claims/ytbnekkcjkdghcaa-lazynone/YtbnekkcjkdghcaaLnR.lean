/- A new queue's first Put, of any pair. -/
import Derived.Test.YtbnekkcjkdghcaaLnQ
namespace Go.Proofs.Ytbnekkcjkdghcaa
open Go.RowKit Go.Maps Go.Shelf
open Go.Sort (grow grow_empty grow_grow alloc_eq_grow heap_grow_old)
variable {w w' : World} {K T H c m : Nat} {tv : Value} {tb : Option Nat}

/-- How many entries there are behind the first Put. -/
def haveN (n : Int) : Nat := if 1 ≤ n then 1 else 0
set_option maxRecDepth 100000 in
theorem haveN_no {n : Int} (h : n < 1) : haveN n = 0 := if_neg (by omega)
set_option maxRecDepth 100000 in
theorem haveN_yes {n : Int} (h : 1 ≤ n) : haveN n = 1 := if_pos h
set_option maxRecDepth 100000 in
set_option maxHeartbeats 4000000 in
theorem lput_first (p1 p2 n : Int) (h : LzIn w K T H c m (.slice none 0 0) [] 0 0 tv tb [] newQ) (hp : FitsPr (p1, p2)) (hn2 : FitsN n) :
    Calls Try.prog 10 #[.pointer (some ⟨K, 0, none⟩), .agg #[.int .i64 p1, .int .i64 p2], .int .i64 n] w fun e w' => e = .returned (.tuple #[]) ∧ LzC w' K (haveN n) ∧ Kept (mineL K H m (.slice none 0 0)) w w' := by
  obtain ⟨N, hN⟩ : ∃ N, w.heap.size = N := ⟨_, rfl⟩
  obtain ⟨wa, hwa⟩ : ∃ wa, w.alloc (.cells #[.int .i64 p1, .int .i64 p2] 41) = wa := ⟨_, rfl⟩
  have hg : Grown w wa := by rw [← hwa]; exact (Grown.refl w).alloc _
  have hba : wa.heap[N]? = some (.cells #[.int .i64 p1, .int .i64 p2] 41 (0, 0)) := by rw [← hwa, ← hN]; exact heap_alloc_new w _
  have n0 : wa.cell? ⟨N, 0, none⟩ = some (.int .i64 p1) := by rw [cell_of_row wa N _ _ 41 (0, 0) hba]; rfl
  have n1 : wa.cell? ⟨N, 1, none⟩ = some (.int .i64 p2) := by rw [cell_of_row wa N _ _ 41 (0, 0) hba]; rfl
  have ha := h.grown hg
  obtain ⟨c0, c1, c2, c3, c4, c5, c6⟩ := ha.cells
  have HH := Lib.hid h
  have hmw := deqMap_some m
  have hmN : m < N := by rw [← hN]; exact h.map.lt
  obtain ⟨p1', p2', p3', p4'⟩ := ha.apart
  have hHm : H ≠ m := fun e => p3' (by rw [← e]; exact .inl rfl)
  have hHK : H ≠ K := fun e => p2' (by rw [← e]; exact .inl rfl)
  have hHlt := ha.heap.ltK
  have hKlt := ha.ltK
  by_cases hn : n < 1
  · obtain ⟨w2, hrun, hM2, hg2⟩ := drop_c (w := wa.drew) (m := some m) (L := []) (ha.map.kept rfl) hp
    have hx2 : ∀ k, k < wa.heap.size → k ≠ m → w2.heap[k]? = wa.heap[k]? := fun k h1 h2 => hg2.block k h1 fun e => h2 (by cases e; rfl)
    have hbK2 := (hx2 K hKlt p4').trans ha.box
    have hbH2 := (hx2 H hHlt hHm).trans ha.heap.box
    have HR : Hid (LzC w2 K (haveN n) ∧ Kept (mineL K H m (.slice none 0 0)) w w2) := Lib.hid (by
      rw [haveN_no hn]
      refine ⟨⟨H, m, none, 0, [], ?_, ?_, ?_, hM2, rfl⟩, ((Kept.of_below (S := mineL K H m (.slice none 0 0)) hg.below (Nat.le_refl _)).drew).grown hg2 fun k e _ => by cases e; exact .inr (.inl rfl)⟩
      · rw [cell_of_row w2 K _ _ 66 (0, 0) hbK2]; rfl
      · rw [cell_of_row w2 K _ _ 66 (0, 0) hbK2]; rfl
      · rw [cell_of_row w2 H _ _ 86 (0, 0) hbH2]; rfl)
    unfold pv at hrun
    simp only at hrun
    clear h ha hg hba hM2 hg2 hx2 hbK2 hbH2 p1' p2' p3' p4'
    go_enter Try.func10, Try.ntmps10
    go_wp2_with fail
    go_region
    go_wp2
    refine bodyPost_ret (results_none rfl _ _ _) rfl ?_
    exact ⟨rfl, HR.out⟩
  · obtain ⟨w2, hrun, hM2, hmt⟩ := put_c (w := wa.drew) (L := []) (ha.map.kept rfl) hp hn2 (by simp)
    have hg2 := hmt.grown
    unfold pv at hrun
    simp only at hrun
    have hx2 : ∀ k, k < wa.heap.size → k ≠ m → w2.heap[k]? = wa.heap[k]? := fun k h1 h2 => hg2.block k h1 fun e => h2 (by cases e; rfl)
    have hNlt : N < wa.heap.size := by rw [← hwa, World.size_alloc, hN]; omega
    have hbN2 : w2.heap[N]? = some (.cells #[.int .i64 p1, .int .i64 p2] 41 (0, 0)) := (hx2 N hNlt (by omega)).trans hba
    have hbK2 := (hx2 K hKlt p4').trans ha.box
    have hbH2 := (hx2 H hHlt hHm).trans ha.heap.box
    have hE2 : Env w2 T tv tb [] c := ha.env.kept fun k h1 h2 => hx2 k h1 fun e => p1' k h2 (.inr (.inl e))
    have hK2 : Kept (mineL K H m (.slice none 0 0)) w w2 := ((Kept.of_below (S := mineL K H m (.slice none 0 0)) hg.below (Nat.le_refl _)).drew).grown hg2 fun k e _ => by cases e; exact .inr (.inl rfl)
    have hKN : K < N := by rw [← hN]; exact h.ltK
    have hHN : H < N := by rw [← hN]; exact h.heap.ltK
    have HCL : Hid (∀ W : World, W.heap[K]? = w2.heap[K]? → W.heap[N]? = w2.heap[N]? → W.cell? ⟨K, 1, none⟩ = some (.pointer (some ⟨H, 0, none⟩)) ∧ W.cell? ⟨N, 0, none⟩ = some (.int .i64 p1) ∧ W.cell? ⟨N, 1, none⟩ = some (.int .i64 p2)) := Lib.hid fun W e1 e2 =>
      ⟨by rw [cell_of_row W K _ _ 66 (0, 0) (e1.trans hbK2)]; rfl, by rw [cell_of_row W N _ _ 41 (0, 0) (e2.trans hbN2)]; rfl, by rw [cell_of_row W N _ _ 41 (0, 0) (e2.trans hbN2)]; rfl⟩
    have hlt2 : K < w2.heap.size ∧ N < w2.heap.size := ⟨(Array.getElem?_eq_some_iff.1 hbK2).1, (Array.getElem?_eq_some_iff.1 hbN2).1⟩
    have HCG : Hid (∀ W, Grown w2 W → W.cell? ⟨K, 1, none⟩ = some (.pointer (some ⟨H, 0, none⟩)) ∧ W.cell? ⟨N, 0, none⟩ = some (.int .i64 p1) ∧ W.cell? ⟨N, 1, none⟩ = some (.int .i64 p2)) := Lib.hid fun W hgW => HCL.out W (hgW.below.block K hlt2.1) (hgW.below.block N hlt2.2)
    have HCK : Hid (∀ W, Kept (fun k => k = H) w2 W → W.cell? ⟨K, 1, none⟩ = some (.pointer (some ⟨H, 0, none⟩)) ∧ W.cell? ⟨N, 0, none⟩ = some (.int .i64 p1) ∧ W.cell? ⟨N, 1, none⟩ = some (.int .i64 p2)) := Lib.hid fun W hkW => HCL.out W (hkW.block K hlt2.1 fun e => hHK e.symm) (hkW.block N hlt2.2 (by omega))
    have hfi : FitsI (p1, p2, n) := ⟨hp.1, hp.2, hn2⟩
    have htee : LzT w2 K T tv tb [] := ⟨by rw [cell_of_row w2 K _ _ 66 (0, 0) hbK2]; rfl, hE2.tab, hE2.few⟩
    obtain ⟨y4, y5, hy⟩ : ∃ y4 y5, placeOf [] (p1, p2, n) = (p1, p2, n, y4, y5, n) := ⟨_, _, rfl⟩
    have HPL : Hid (∀ W, Grown w2 W → Calls Try.prog 28 #[.pointer (some ⟨K, 0, none⟩), .agg #[.int .i64 p1, .int .i64 p2, .int .i64 n]] W fun e w' => e = .returned (.agg #[.int .i64 p1, .int .i64 p2, .int .i64 n, .int .i64 y4, .int .i64 y5, .int .i64 n]) ∧ Grown w2 w') := Lib.hid fun W hgW => by
      have cP := place_any (p1, p2, n) (htee.grown hgW) hfi
      rw [hy] at cP
      exact cP.mono fun e w' he => ⟨he.1, hgW.trans he.2⟩
    have HPU : Hid (∀ W, Grown w2 W → Calls Try.prog 27 #[.pointer (some ⟨H, 0, none⟩), .agg #[.int .i64 p1, .int .i64 p2, .int .i64 n, .int .i64 y4, .int .i64 y5, .int .i64 n]] W fun e w' => e = .returned (.tuple #[]) ∧ FirstRet w2 H w') := Lib.hid fun W hgW => by
      have cU := push_first (H := H) 38 #[.pointer (some ⟨c, 0, none⟩)] p1 p2 n y4 y5 n W ((hgW.below.block H (Array.getElem?_eq_some_iff.1 hbH2).1).trans hbH2)
      exact cU.mono fun e w' he => ⟨he.1, (Kept.of_below (S := fun k => k = H) hgW.below (Nat.le_refl _)).trans he.2.1 fun _ _ h => h, he.2.2⟩
    have hg0 := Grown.refl w2
    obtain ⟨s0, s1, s2⟩ := HCG.out w2 hg0
    have HX2 := Lib.hid hbK2
    have HM2 := Lib.hid hM2
    have HKP2 := Lib.hid hK2
    clear h ha hg hba hM2 hg2 hmt hx2 p1' p2' p3' p4' hbN2 hbK2 hbH2 hE2 hK2 htee hfi hy hp
    go_enter Try.func10, Try.ntmps10
    go_wp2_with fail
    go_region
    go_wp2_with fail
    go_region_held3 (fun w' => w'.cell? ⟨K, 1, none⟩ = some (.pointer (some ⟨H, 0, none⟩)) ∧ w'.cell? ⟨N, 0, none⟩ = some (.int .i64 p1) ∧ w'.cell? ⟨N, 1, none⟩ = some (.int .i64 p2))
      (first | with_reducible exact ⟨s0, s1, s2⟩ | with_reducible exact HCG.out _ (by assumption) | with_reducible exact HCG.out _ (Grown.drew (by assumption)) | with_reducible exact HCK.out _ hk4.out)
      (first
        | (go_at_call 28
           refine (HPL.out _ (by first | assumption | exact Grown.drew (by assumption))).mono ?_
           rintro e w3 ⟨rfl, hg3⟩)
        | (go_at_call 27
           refine (HPU.out _ (by first | assumption | exact Grown.drew (by assumption))).mono ?_
           rintro e w4 ⟨rfl, hr4⟩
           have HR4 := Lib.hid hr4
           have hk4 : Hid (Kept (fun k => k = H) w2 w4) := Lib.hid hr4.1
           clear hr4))
    all_goals (
      obtain ⟨b4, ra, rc, hc4⟩ := HR4.out
      have hK2lt := (Array.getElem?_eq_some_iff.1 HX2.out).1
      have hbx4 := (b4.block K hK2lt fun e => hHK e.symm).trans HX2.out
      have f5 : w4.cell? ⟨K, 5, none⟩ = some (.int .i64 0) := by rw [cell_of_row w4 K _ _ 66 (0, 0) hbx4]; rfl
      have f6 : w4.frozen? ⟨K, 5, none⟩ = false := Lib.frozen_of_heap hbx4 _
      obtain ⟨w5, hw5⟩ : ∃ w5, w4.setCell ⟨K, 5, none⟩ (.int .i64 1) = w5 := ⟨_, rfl⟩
      have hbx5 := heap_setCell_at hbx4 (i := 5) (.int .i64 1)
      rw [hw5] at hbx5
      have hk45 : ∀ i, i ≠ K → w5.heap[i]? = w4.heap[i]? := fun i hi => by rw [← hw5, Below.heap_setCell _ ⟨K, 5, none⟩ _ i hi]
      have hM4 := HM2.out.kept (b4.block m HM2.out.lt fun e => hHm e.symm)
      have hmK : m ≠ K := fun e => by
        obtain ⟨es, cl, hmb⟩ := hM4.block
        rw [e, hbx4] at hmb
        cases hmb
      have hc5 : w5.cell? ⟨H, 1, none⟩ = some (.slice ra 1 rc) := by
        rw [← hw5, World.cell?_setCell_other _ _ _ _ (by intro e; cases e)]
        exact hc4
      have hZ5 : LzC w5 K 1 := ⟨H, m, ra, rc, _, by rw [cell_of_row w5 K _ _ 66 (0, 0) hbx5]; rfl, by rw [cell_of_row w5 K _ _ 66 (0, 0) hbx5]; rfl, hc5, hM4.kept (hk45 m hmK), rfl⟩
      have hK5 : Kept (mineL K H m (.slice none 0 0)) w w5 := by
        rw [← hw5]
        exact (HKP2.out.trans b4 fun _ _ e => .inr (.inr (.inl e))).setCell ⟨K, 5, none⟩ _ fun _ => .inl rfl
      have f7 : w5.cell? ⟨K, 7, none⟩ = some (.int .i64 0) := by rw [cell_of_row w5 K _ _ 66 (0, 0) hbx5]; rfl
      have f8 : w5.frozen? ⟨K, 7, none⟩ = false := Lib.frozen_of_heap hbx5 _
      have cL5 : ∀ W, Grown w5 W → Calls Try.prog 17 #[.pointer (some ⟨K, 0, none⟩)] W fun e w' => e = .returned (.int .i64 1) ∧ w' = W := fun W hgW => clen_any (hZ5.grown hgW)
      have g50 := Grown.refl w5
      obtain ⟨w6, hw6⟩ : ∃ w6, w5.drew.setCell ⟨K, 7, none⟩ (.int .i64 1) = w6 := ⟨_, rfl⟩
      have hbx6 := heap_setCell_at (w := w5.drew) hbx5 (i := 7) (.int .i64 1)
      rw [hw6] at hbx6
      have hk56 : ∀ i, i ≠ K → w6.heap[i]? = w5.heap[i]? := fun i hi => by rw [← hw6, Below.heap_setCell _ ⟨K, 7, none⟩ _ i hi]; rfl
      have hc6 : w6.cell? ⟨H, 1, none⟩ = some (.slice ra 1 rc) := by
        rw [← hw6, World.cell?_setCell_other _ _ _ _ (by intro e; cases e)]
        exact hc5
      have HZ6 : Hid (LzC w6 K 1) := Lib.hid ⟨H, m, ra, rc, _, by rw [cell_of_row w6 K _ _ 66 (0, 0) hbx6]; rfl, by rw [cell_of_row w6 K _ _ 66 (0, 0) hbx6]; rfl, hc6, (hM4.kept (hk45 m hmK)).kept (hk56 m hmK), rfl⟩
      have HK6 : Hid (Kept (mineL K H m (.slice none 0 0)) w w6) := Lib.hid (by
        rw [← hw6]
        exact hK5.drew.setCell ⟨K, 7, none⟩ _ fun _ => .inl rfl)
      have hmx : max (0 : Int) 1 = 1 := by decide
      have cL6 : ∀ W, W = w6 → Calls Try.prog 17 #[.pointer (some ⟨K, 0, none⟩)] W fun e w' => e = .returned (.int .i64 1) ∧ w' = W := fun W hgW => by
        subst hgW
        exact clen_any HZ6.out
      clear b4 hk4 HR4 hbx4 hbx5 hbx6 hk45 hM4 hc4 hc5 hc6 hZ5 hK5 hk56 s0 s1 s2 hrun
      go_wp2_with fail
      go_region_with (refine (cL5 _ (by first | exact g50 | exact Grown.drew g50)).mono ?_; rintro e w9 ⟨rfl, rfl⟩)
      all_goals (
        go_wp2_with (first | (go_at_call 17; refine (cL6 _ rfl).mono ?_; rintro e w10 ⟨rfl, rfl⟩))
        go_end0
        refine ⟨rfl, ?_⟩
        rw [haveN_yes (by omega)]
        exact ⟨HZ6.out, HK6.out⟩))
end Go.Proofs.Ytbnekkcjkdghcaa
