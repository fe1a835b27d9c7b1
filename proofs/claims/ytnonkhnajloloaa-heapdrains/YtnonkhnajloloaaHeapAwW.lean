/- The document's example comes out as it says. -/
import Derived.Test.YtnonkhnajloloaaHeapAwake
namespace Go.Proofs.Ytnonkhnajloloaa
open Go.RowKit Go.Shelf
open Go.Sort (grow grow_empty grow_grow alloc_eq_grow heap_grow_old)
attribute [local go_sem] Oper.semAt_some

set_option maxRecDepth 100000 in
theorem results_cell1q {fn : Func} {p : Tmp} {ty : TypeId} (h : fn.results = #[.cell p ty]) (tmps : Array Value) (P : Program) (w : World) :
    (results fn tmps).run P w = ((asAddr (tmps.getD p undef)).run P w).andThen fun a w₁ => (loadVar ty a).run P w₁ := by
  simp only [results, h]
  simp [Sem.run_bind, Result.andThen]
  done
set_option maxRecDepth 100000 in
theorem three_items (w : World) : eltsAt itE (w.alloc (.cells #[.int .i64 3, .int .i64 0, .int .i64 1, .int .i64 0, .int .i64 2, .int .i64 0] 32)) (.slice (some ⟨w.heap.size, 0, none⟩) 3 3) [(3, 0), (1, 0), (2, 0)] := by
  have : ownE itE (w.alloc (.cells #[.int .i64 3, .int .i64 0, .int .i64 1, .int .i64 0, .int .i64 2, .int .i64 0] 32)) w.heap.size (.slice (some ⟨w.heap.size, 0, none⟩) 3 3) [(3, 0), (1, 0), (2, 0)] :=
    ⟨rfl, .inr ⟨w.heap.size, 3, _, rfl, Nat.le_refl _, heap_alloc_new w _, Nat.le_refl _, by unfold maxLen; omega, rfl, rfl⟩⟩
  exact this.reads
set_option maxRecDepth 100000 in
theorem three_ints (w : World) : eltsAt intE (w.alloc (.cells #[.int .i64 3, .int .i64 2, .int .i64 1] 3)) (.slice (some ⟨w.heap.size, 0, none⟩) 3 3) [3, 2, 1] := by
  have : ownE intE (w.alloc (.cells #[.int .i64 3, .int .i64 2, .int .i64 1] 3)) w.heap.size (.slice (some ⟨w.heap.size, 0, none⟩) 3 3) [3, 2, 1] :=
    ⟨rfl, .inr ⟨w.heap.size, 3, _, rfl, Nat.le_refl _, heap_alloc_new w _, Nat.le_refl _, by unfold maxLen; omega, rfl, rfl⟩⟩
  exact this.reads
set_option maxRecDepth 100000 in
set_option maxHeartbeats 2000000 in
theorem awake_any (w : World) : Calls Try.prog 7 #[] w fun e w' => e = .returned (.bool true) ∧ Below w.heap.size w w' := by
  obtain ⟨N0, hN0⟩ : ∃ N0, w.heap.size = N0 := ⟨_, rfl⟩
  obtain ⟨w1, hw1⟩ : ∃ w1, w.alloc (.cells #[.bool false] 4) = w1 := ⟨_, rfl⟩
  obtain ⟨w2, hw2⟩ : ∃ w2, w1.alloc (.cells #[.slice none 0 0] 47) = w2 := ⟨_, rfl⟩
  obtain ⟨w3, hw3⟩ : ∃ w3, w2.alloc (.cells #[.int .i64 3, .int .i64 0, .int .i64 1, .int .i64 0, .int .i64 2, .int .i64 0] 32) = w3 := ⟨_, rfl⟩
  have z1 : w1.heap.size = N0 + 1 := by rw [← hw1, World.size_alloc, hN0]
  have z2 : w2.heap.size = N0 + 2 := by rw [← hw2, World.size_alloc, z1]
  have z3 : w3.heap.size = N0 + 3 := by rw [← hw3, World.size_alloc, z2]
  have b1 : Below w.heap.size w w1 := by rw [← hw1]; exact (Below.refl _ w).alloc (Nat.le_refl _) _
  have b2 : Below w1.heap.size w1 w2 := by rw [← hw2]; exact (Below.refl _ w1).alloc (Nat.le_refl _) _
  have b3 : Below w2.heap.size w2 w3 := by rw [← hw3]; exact (Below.refl _ w2).alloc (Nat.le_refl _) _
  have g1 : w1.heap[N0]? = some (.cells #[.bool false] 4 (0, 0)) := by rw [← hw1, ← hN0]; exact heap_alloc_new w _
  have g2 : w2.heap[N0 + 1]? = some (.cells #[.slice none 0 0] 47 (0, 0)) := by rw [← hw2, ← z1]; exact heap_alloc_new w1 _
  have HB : Hid (Below w.heap.size w w3) := Lib.hid (b1.trans ((b2.mono (by omega)).trans (b3.mono (by omega))))
  have HG1 : Hid (w3.heap[N0]? = some (.cells #[.bool false] 4 (0, 0))) := Lib.hid ((b3.block N0 (by omega)).trans ((b2.block N0 (by omega)).trans g1))
  have HG2 : Hid (w3.heap[N0 + 1]? = some (.cells #[.slice none 0 0] 47 (0, 0))) := Lib.hid ((b3.block (N0 + 1) (by omega)).trans g2)
  have cO := mk_any (.slice (some ⟨N0 + 2, 0, none⟩) 3 3) [(3, 0), (1, 0), (2, 0)] w3 (by rw [← hw3, ← z2]; exact three_items w2) (someNone _ _ _) (by simp)
  have HZ := Lib.hid z3; have HN0 := Lib.hid hN0
  have hsq := Try.isSeq
  clear b1 b2 b3 g1 g2 z3
  refine (callsIn_wide (n := 8)).1 ?_
  refine callsIn_of_wp_marks Try.func7 rfl trivial ?_ rfl
  simp only [Try.ntmps7, List.size_toArray, List.length_nil, Nat.reduceSub, Array.replicate_succ, Array.replicate_zero, List.push_toArray, List.append_toArray, List.nil_append, List.cons_append]
  gi_wp2_with fail
  refine ⟨trivial, (callsIn_wide.2 cO).mono ?_⟩
  rintro e w4 ⟨K, v, A, rfl, hp, hh, ho, hb⟩
  obtain ⟨N, hN⟩ : ∃ N, w4.heap.size = N := ⟨_, rfl⟩
  obtain ⟨wL, hwL⟩ : ∃ wL, w4.alloc (.cells #[.pointer (some ⟨K, 0, none⟩)] 24) = wL := ⟨_, rfl⟩
  have hbL : Below w4.heap.size w4 wL := by rw [← hwL]; exact (Below.refl _ w4).alloc (Nat.le_refl _) _
  have cD := drain_any K w4
  rw [hN, hwL] at cD
  have hz4 : N0 + 3 ≤ w4.heap.size := by have := hb.size; rw [HZ.out] at this; exact this
  have HS : Hid (AwS w K N N0 (N0 + 1) [] [] (.slice none 0 0) (v, A) wL) := Lib.hid {
    own := ⟨(ho.below hbL).mono (by rw [HZ.out, HN0.out]; omega), hh, by rw [← hwL, ← hN]; exact heap_alloc_new w4 _⟩
    awr := .inl ⟨rfl, hp⟩
    got := (hbL.block _ (by omega)).trans ((hb.block _ (by rw [HZ.out]; omega)).trans HG2.out)
    row := ownE.nil _ _
    res := (hbL.block _ (by omega)).trans ((hb.block _ (by rw [HZ.out]; omega)).trans HG1.out)
    bel := HB.out.trans ((hb.mono (by rw [HZ.out, HN0.out]; omega)).trans (hbL.mono (by rw [HN0.out]; omega))) }
  have HWL : Hid (w.heap.size ≤ wL.heap.size ∧ N0 + 4 ≤ wL.heap.size) := Lib.hid (by have := hbL.size; rw [← hwL, World.size_alloc, HN0.out]; omega)
  unfold seqV at cD
  clear cO hp hh ho hb hbL hz4 hw1 hw2 hw3 z1 z2 hN0 hwL hN
  gi_wp2_with fail
  refine ⟨trivial, (callsIn_wide.2 cD).mono ?_⟩
  rintro e w5 ⟨rfl, rfl⟩
  clear cD
  gi_wp2_with fail
  refine wpIn_range_hand (σ := Value × List It) (α := It) (encs := fun x => #[itV x]) rfl (by omega) (gf := 26) (lb := #[.pointer (some ⟨N, 0, none⟩)]) rfl trivial (enters_of Try.func26 (by kernel_rfl) rfl)
    (drain_hand bet_of N 7 (by omega)) (fun _ => rfl) (fun s W V ho hf => Kept.others hf ho.1.blocks)
    (fun s W => ∃ G u, AwS w K N N0 (N0 + 1) G G u s W) (fun _ _ => False) (fun W => ∃ s u, AwS w K N N0 (N0 + 1) [3, 2, 1] [3, 2, 1] u s W) (v, A)
    (fun s W h => by obtain ⟨G, u, h⟩ := h; exact h.own) (fun s W V h k => by obtain ⟨G, u, h⟩ := h; exact ⟨G, u, h.blink k HWL.out.1⟩) (fun _ _ _ h _ => h) (fun W V h k => by obtain ⟨s, u, h⟩ := h; exact ⟨s, u, h.blink k HWL.out.1⟩)
    ⟨[], _, HS.out⟩ (fun s W V h hf ho hfr => by
      obtain ⟨G, u, h⟩ := h
      have hr := h.awr
      have e : s.2 = [] := hf
      rw [e] at hr
      obtain rfl := awR_end hr
      exact ⟨s, u, h.turn h.awr ho hfr⟩) ?round ?done ?stop
  case round =>
    intro l s x s' W V h hn ho hf
    obtain ⟨G, u, h⟩ := h
    obtain ⟨h1, h2⟩ := h.pop hn ho hf
    obtain ⟨M, hM⟩ : ∃ M, V.heap.size = M := ⟨_, rfl⟩
    obtain ⟨x1, x2⟩ := x
    have HV := Lib.hid h1; have HGL := Lib.hid h2
    clear h h1 h2 hn ho hf HS
    unfold itV
    gi_wp2
    refine ⟨KeepsOthers.alloc _ _, fun V2 hb2 => ?_⟩
    have hbx := box_blink (BoxI.new V x1 x2).heap hb2
    rw [hM] at hbx
    obtain ⟨m0, m1, _, _⟩ := (BoxI.mk hbx).cells
    have HV2 := Lib.hid (HV.out.blink ((Blink.alloc _ V _).trans hb2) HWL.out.1)
    have c1 : V2.cell? ⟨N0 + 1, 0, none⟩ = some u := by rw [cell_of_row V2 (N0 + 1) 0 _ 47 (0, 0) HV2.out.got]; rfl
    have HW2 : Hid (w.heap.size ≤ V2.heap.size ∧ N0 + 1 < V2.heap.size) := Lib.hid ⟨HV2.out.bel.size, (Array.getElem?_eq_some_iff.1 HV2.out.got).1⟩
    have HRW : Hid (ownE intE (V2.alloc (.cells #[.int .i64 x1] 3)) w.heap.size u G) := Lib.hid (HV2.out.row.alloc _)
    have HAL : Hid (Blink w.heap.size V2 (V2.alloc (.cells #[.int .i64 x1] 3))) := Lib.hid (Blink.alloc _ _ _)
    have HV3 := Lib.hid (HV2.out.blink HAL.out (Nat.le_refl _))
    clear hb2 hbx
    gi_wp2_with (gi_at_builtin; refine wpListIn_append_elts intE rfl (.tmp 14) (.tmp 17) rfl w.heap.size u _ G [x1] rfl rfl HRW.out (one_elt intE V2 x1) (someNone _ _ _) (by have := HGL.out; simp; omega) (by have := HW2.out; rw [World.size_alloc]; omega) ?_; intro r V3 ho3 hg3 hr3; obtain ⟨n1, hn1⟩ : ∃ n1, (G ++ [x1]).length = n1 := ⟨_, rfl⟩; have hn3 : ¬ (3 : Int) < (n1 : Int) := (by rw [← hn1]; have := HGL.out; simp; omega); obtain ⟨ra, rc, e3, _⟩ := ho3.form; rw [hn1] at e3; subst e3; have hgot := (hg3.block (N0 + 1) (Array.getElem?_eq_some_iff.1 HV3.out.got).1 (fun e => by obtain ⟨cs, hc⟩ := HV3.out.row.block _ e.symm; have h2 := HV3.out.got; rw [hc] at h2; cases h2)).trans HV3.out.got; obtain ⟨z0, zf⟩ : V3.cell? ⟨N0 + 1, 0, none⟩ = some u ∧ V3.frozen? ⟨N0 + 1, 0, none⟩ = false := ⟨by rw [cell_of_row V3 (N0 + 1) 0 _ 47 (0, 0) hgot]; rfl, Lib.frozen_of_heap hgot _⟩; have hA := HV3.out.app (by have := HWL.out; have := HN0.out; omega) ho3 hg3 hr3 (by rw [World.size_alloc]; have := HW2.out; omega); obtain ⟨V4, hV4⟩ : ∃ V4, V3.setCell ⟨N0 + 1, 0, none⟩ (.slice ra n1 rc) = V4 := ⟨_, rfl⟩; rw [hV4] at hA; have c4 : V4.cell? ⟨N0 + 1, 0, none⟩ = some (.slice ra n1 rc) := (by rw [cell_of_row V4 (N0 + 1) 0 _ 47 (0, 0) hA.1.got]; rfl); have HA := Lib.hid hA; clear hn1 hgot ho3 hg3 hr3 hA)
    exact ⟨(KeepsOthers.alloc _ _).trans HA.out.2, _, _, HA.out.1⟩
  case done =>
    rintro D W ⟨s, u, h⟩ hK hD
    have H := Lib.hid h
    have hg := h.got
    have hr := h.res
    have c1 : W.cell? ⟨N0 + 1, 0, none⟩ = some u := by rw [cell_of_row W (N0 + 1) 0 _ 47 (0, 0) hg]; rfl
    obtain ⟨W1, hW1⟩ : ∃ W1, W.alloc (.cells #[.int .i64 3, .int .i64 2, .int .i64 1] 3) = W1 := ⟨_, rfl⟩
    have hb1 : Below W.heap.size W W1 := by rw [← hW1]; exact (Below.refl _ W).alloc (Nat.le_refl _) _
    have cI := intsq_any u (.slice (some ⟨W.heap.size, 0, none⟩) 3 3) [3, 2, 1] W1 (h.row.reads.below hb1 (Nat.le_refl _)) (by rw [← hW1]; exact three_ints W) (by simp)
    have HW1 := Lib.hid hW1; have HB1 := Lib.hid hb1; have HK := Lib.hid hK; have HD := Lib.hid hD
    clear h hg hr hb1 hK hD HS
    gi_wp2_with fail
    refine ⟨trivial, (callsIn_wide.2 cI).mono ?_⟩
    rintro e W2 ⟨rfl, n, rfl⟩
    have hN0 : (W1.drewN n).heap[N0]? = some (.cells #[.bool false] 4 (0, 0)) := (HB1.out.block N0 (Array.getElem?_eq_some_iff.1 H.out.res).1).trans H.out.res
    have d0 : (W1.drewN n).cell? ⟨N0, 0, none⟩ = some (.bool false) := by rw [cell_of_row _ N0 0 _ 4 (0, 0) hN0]; rfl
    have d1 : (W1.drewN n).frozen? ⟨N0, 0, none⟩ = false := Lib.frozen_of_heap hN0 _
    have HN := Lib.hid hN0
    obtain ⟨W3, hW3⟩ : ∃ W3, W1.drewN n = W3 := ⟨_, rfl⟩
    rw [hW3] at d0 d1
    have HW3 := Lib.hid hW3
    rw [hW3]
    clear hN0 cI hW3
    gi_wp2
    have hD : N0 ≠ D := by
      intro e
      have h1 := H.out.res
      rw [e, HK.out] at h1
      cases h1
    have hN4 : (W3.setCell ⟨N0, 0, none⟩ (.bool true)).heap[N0]? = some (.cells #[.bool true] 4 (0, 0)) := (heap_setCell_at (by have := HN.out; rwa [HW3.out] at this) _).trans rfl
    have hD4 : (W3.setCell ⟨N0, 0, none⟩ (.bool true)).heap[D]? = some (.deferred (some [])) := by
      rw [Below.heap_setCell _ ⟨N0, 0, none⟩ _ D (fun e => hD e.symm), ← HW3.out]
      exact (HB1.out.block D (Array.getElem?_eq_some_iff.1 HK.out).1).trans HK.out
    refine ⟨by simp, .inl ⟨_, _, rfl, run_takeDeferred hD4, ?_⟩⟩
    have hN5 : ((W3.setCell ⟨N0, 0, none⟩ (.bool true)).putObj D (.deferred none)).heap[N0]? = some (.cells #[.bool true] 4 (0, 0)) := (World.putObj_heap_other hD).trans hN4
    have x0 := cell_of_row _ N0 0 _ 4 (0, 0) hN5
    refine ⟨.bool true, (by rw [results_cell1q rfl]; simp [go_sem, x0]), rfl, ?_⟩
    have hbl : Below w.heap.size w W3 := by
      rw [← HW3.out]
      have h := H.out.bel.trans (HB1.out.mono H.out.bel.size)
      exact ⟨h.os, h.tape, h.output, h.size, h.block⟩
    have h6 : Below w.heap.size w (W3.setCell ⟨N0, 0, none⟩ (.bool true)) := hbl.setCell (p := ⟨N0, 0, none⟩) (by rw [HN0.out]; exact Nat.le_refl _) _
    exact h6.trans ((Blink.putObj (.deferred none) (show w.heap.size ≤ D by have := HWL.out; have := HD.out; omega) hD4 rfl).below (Nat.le_refl _) h6.size)
  case stop => exact fun _ _ _ h _ _ => h.elim
end Go.Proofs.Ytnonkhnajloloaa
