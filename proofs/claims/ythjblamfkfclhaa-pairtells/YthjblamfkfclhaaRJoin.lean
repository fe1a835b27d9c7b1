/- Join of the document's own table of symbols. -/
import Derived.Test.YthjblamfkfclhaaRTab
namespace Go.Proofs.Ythjblamfkfclhaa
open Go.RowKit Go.Maps

/-- What the document's Join leaves. -/
def RRet (base K : Nat) (v p : Value) (J : List Joint) (w w' : World) : Prop := ∃ v' p', Rtab w' base K v' p' J ∧ Kept (mineR K v p) w w'
theorem RRet.below {base K : Nat} {v p : Value} {J : List Joint} {w w' : World} (h : Rtab w base K v p J) (hb : Below w.heap.size w w') : RRet base K v p J w w' := ⟨v, p, h.below hb, Kept.of_below hb (Nat.le_refl _)⟩
/-- The texts' row is longer by one, and is laid into the table. -/
theorem rj_one {wq w3 : World} {base K : Nat} {v p r : Value} {J : List Joint} {T : List ByteArray} {o : Obj} (h : Rtab wq base K v p J) (hg : (wq.alloc o).grownBy w3 v.ownBlock) (ho : ownE textE w3 base r T) :
    w3.heap[K]? = some (.cells #[v, p] 55 (0, 0)) ∧ (w3.setCell ⟨K, 0, none⟩ r).heap[K]? = some (.cells #[r, p] 55 (0, 0)) ∧ ownE textE (w3.setCell ⟨K, 0, none⟩ r) base r T ∧ ownE pairE (w3.setCell ⟨K, 0, none⟩ r) base p (J.map (·.2)) ∧ Kept (mineR K v p) wq (w3.setCell ⟨K, 0, none⟩ r) := by
  have hK := (h.lt K (.inl rfl)).2
  have old : ∀ k, k < wq.heap.size → some k ≠ v.ownBlock → w3.heap[k]? = wq.heap[k]? := fun k hk hne => (hg.block k (by rw [World.size_alloc]; omega) hne).trans (Below.heap_alloc wq o k hk)
  have nK : some K ≠ v.ownBlock := fun e => by
    obtain ⟨cs, hc⟩ := h.texts.block K e.symm
    rw [h.cells] at hc; cases hc
  have h3 := (old K hK nK).trans h.cells
  refine ⟨h3, heap_setCell_at h3 r, ho.kept fun g hg => Below.heap_setCell _ _ _ _ ?_, h.pairs.kept fun g hg => ?_, ?_⟩
  · rintro rfl
    obtain ⟨cs, hc⟩ := ho.block _ hg
    rw [h3] at hc; cases hc
  · obtain ⟨cs, hc⟩ := h.pairs.block g hg
    have nv : some g ≠ v.ownBlock := fun e => by
      obtain ⟨cs', hc'⟩ := h.texts.block g e.symm
      rw [hc] at hc'; cases hc'
    rw [Below.heap_setCell _ _ _ _ (show g ≠ K by rintro rfl; rw [h.cells] at hc; cases hc)]
    exact old g (h.pairs.lt g hg).2 nv
  · exact Kept.setCell (Kept.grown ((Kept.refl _ wq).alloc o) hg fun k e _ => .inr (.inl e.symm)) _ _ fun _ => .inl rfl
/-- The pairs' row is longer by one, and is laid into the table. -/
theorem rj_two {w4 w5 : World} {base K : Nat} {r p r2 : Value} {P P' : List (Int × Int)} {T : List ByteArray} {o : Obj} (hK4 : w4.heap[K]? = some (.cells #[r, p] 55 (0, 0))) (ht : ownE textE w4 base r T) (hp : ownE pairE w4 base p P) (hg : (w4.alloc o).grownBy w5 p.ownBlock) (ho : ownE pairE w5 base r2 P') :
    w5.heap[K]? = some (.cells #[r, p] 55 (0, 0)) ∧ (w5.setCell ⟨K, 1, none⟩ r2).heap[K]? = some (.cells #[r, r2] 55 (0, 0)) ∧ ownE textE (w5.setCell ⟨K, 1, none⟩ r2) base r T ∧ ownE pairE (w5.setCell ⟨K, 1, none⟩ r2) base r2 P' ∧ Kept (fun k => k = K ∨ some k = p.ownBlock) w4 (w5.setCell ⟨K, 1, none⟩ r2) := by
  have hK := (Array.getElem?_eq_some_iff.1 hK4).1
  have old : ∀ k, k < w4.heap.size → some k ≠ p.ownBlock → w5.heap[k]? = w4.heap[k]? := fun k hk hne => (hg.block k (by rw [World.size_alloc]; omega) hne).trans (Below.heap_alloc w4 o k hk)
  have nK : some K ≠ p.ownBlock := fun e => by
    obtain ⟨cs, hc⟩ := hp.block K e.symm
    rw [hK4] at hc; cases hc
  have h5 := (old K hK nK).trans hK4
  refine ⟨h5, heap_setCell_at h5 r2, ht.kept fun g hg => ?_, ho.kept fun g hg => Below.heap_setCell _ _ _ _ ?_, ?_⟩
  · obtain ⟨cs, hc⟩ := ht.block g hg
    have nv : some g ≠ p.ownBlock := fun e => by
      obtain ⟨cs', hc'⟩ := hp.block g e.symm
      rw [hc] at hc'; cases hc'
    rw [Below.heap_setCell _ _ _ _ (show g ≠ K by rintro rfl; rw [hK4] at hc; cases hc)]
    exact old g (ht.lt g hg).2 nv
  · rintro rfl
    obtain ⟨cs, hc⟩ := ho.block _ hg
    rw [h5] at hc; cases hc
  · exact Kept.setCell (Kept.grown ((Kept.refl _ w4).alloc o) hg fun k e _ => .inr e.symm) _ _ fun _ => .inl rfl
set_option maxRecDepth 100000 in
set_option maxHeartbeats 4000000 in
theorem rjoin_any (base K : Nat) (v p : Value) (J : List Joint) (a c : Int) (w : World) (h : Rtab w base K v p J) (hg : Good J) (hJ : J.length ≤ 900000) (hb0 : base ≤ w.heap.size) :
    Calls Try.prog 19 #[.pointer (some ⟨K, 0, none⟩), .int .i64 a, .int .i64 c] w fun e w' => e = .returned (.tuple #[.int .i64 (joinOf J a c).1.1, .int .i64 (joinOf J a c).1.2]) ∧ RRet base K v p (joinOf J a c).2 w w' := by
  have H := Lib.hid h
  have HG := Lib.hid hg
  have cA := rthere_any base K v p J a w h
  have cC := rthere_any base K v p J c w h
  obtain ⟨c0, c1, f0, f1⟩ := rcell h.cells
  clear h hg
  cases ha : thereOf J a with
  | false =>
    rw [join_arg (by rw [ha]; rfl)]
    rw [ha] at cA
    clear ha
    go_enter Try.func19, Try.ntmps19
    go_wp2_with fail
    refine cA.mono ?_
    rintro e w1 ⟨rfl, rfl⟩
    go_wp2
    go_ret2
    exact ⟨rfl, RRet.below H.out (Below.refl _ _)⟩
  | true =>
    cases hc : thereOf J c with
    | false =>
      rw [join_arg (by rw [ha, hc]; rfl)]
      rw [ha] at cA
      rw [hc] at cC
      clear ha hc
      go_enter Try.func19, Try.ntmps19
      go_wp2_with fail
      refine cA.mono ?_
      rintro e w1 ⟨rfl, hw1⟩
      subst hw1
      go_wp2_with fail
      refine cC.mono ?_
      rintro e w1 ⟨rfl, hw1⟩
      subst hw1
      go_wp2
      go_ret2
      exact ⟨rfl, RRet.below H.out (Below.refl _ _)⟩
    | true =>
      have h1 : (thereOf J a && thereOf J c) = true := by rw [ha, hc]; rfl
      obtain ⟨ha0, ha1⟩ := there_iff.1 ha
      obtain ⟨hc0, hc1⟩ := there_iff.1 hc
      have ea := txt_there ha0 ha1
      have ec := txt_there hc0 hc1
      have sA := txt_le HG.out a
      have sC := txt_le HG.out c
      obtain ⟨i, rfl⟩ : ∃ i : Nat, a = (i : Int) := ⟨a.toNat, by omega⟩
      obtain ⟨j, rfl⟩ : ∃ j : Nat, c = (j : Int) := ⟨c.toNat, by omega⟩
      simp only [Int.toNat_natCast] at ha1 hc1 ea ec
      obtain ⟨ar, cap, rfl, _⟩ := H.out.texts.form
      obtain ⟨g, rfl, _⟩ := ownE_some H.out.texts (by omega)
      have x0 := texts_cell H.out.texts.reads (Below.refl _ w) ha1
      have y0 := texts_cell H.out.texts.reads (Below.refl _ w) hc1
      rw [add_zero_off, ← ea] at x0
      rw [add_zero_off, ← ec] at y0
      have HEA := Lib.hid ea; have HEC := Lib.hid ec
      clear ea ec
      rw [ha] at cA
      rw [hc] at cC
      have cF := fun wq v (hq : Rtab wq base K v p J) => rfind_any base K v p J (txtOf J (i : Int) ++ txtOf J (j : Int)) wq hq hJ
      obtain ⟨N, hN⟩ : ∃ N, (textsOf J).length = N := ⟨_, rfl⟩
      have HN := Lib.hid hN
      rw [hN] at H c0 ha1 hc1 ⊢
      have hiI : (i : Int) < (N : Int) := by omega
      have hjI : (j : Int) < (N : Int) := by omega
      have hi0 : (0 : Int) ≤ (i : Int) := by omega
      have hj0 : (0 : Int) ≤ (j : Int) := by omega
      clear hN
      by_cases hl : 65536 < (txtOf J (i : Int)).size + (txtOf J (j : Int)).size
      · rw [join_long h1 hl]
        clear h1 ha hc cF
        generalize txtOf J (i : Int) = x at *
        generalize txtOf J (j : Int) = y at *
        have hlI : (65536 : Int) < (x.size : Int) + (y.size : Int) := by omega
        have hwr : IntKind.i64.wrap ((x.size : Int) + (y.size : Int)) = (x.size : Int) + (y.size : Int) := IntWalk.i64_in _ (by omega)
        go_enter Try.func19, Try.ntmps19
        go_wp2_with fail
        refine cA.mono ?_
        rintro e w1 ⟨rfl, hw1⟩
        subst hw1
        go_wp2_with fail
        refine cC.mono ?_
        rintro e w2 ⟨rfl, hw1⟩
        subst hw1
        go_wp2
        go_quiet (fail)
        go_wp2
        go_ret2
        exact ⟨rfl, RRet.below H.out (below_drewN' (Below.refl _ _) _)⟩
      · cases hf : (findOf J (txtOf J (i : Int) ++ txtOf J (j : Int))).2 with
        | true =>
          rw [join_repeat h1 hl hf]
          rw [hf] at cF
          clear h1 ha hc hf
          generalize (findOf J (txtOf J (i : Int) ++ txtOf J (j : Int))).1 = z at *
          generalize txtOf J (i : Int) = x at *
          generalize txtOf J (j : Int) = y at *
          have hlI : ¬ (65536 : Int) < (x.size : Int) + (y.size : Int) := by omega
          have hlN : ¬ 9223372036854775807 < x.size + y.size := by omega
          have hwr : IntKind.i64.wrap ((x.size : Int) + (y.size : Int)) = (x.size : Int) + (y.size : Int) := IntWalk.i64_in _ (by omega)
          go_enter Try.func19, Try.ntmps19
          go_wp2_with fail
          refine cA.mono ?_
          rintro e w1 ⟨rfl, hw1⟩
          subst hw1
          go_wp2_with fail
          refine cC.mono ?_
          rintro e w2 ⟨rfl, hw1⟩
          subst hw1
          go_wp2
          go_quiet (fail)
          go_wp2
          go_quiet (fail)
          go_wp2_with fail
          refine (cF _ _ (H.out.drewN _)).mono ?_
          rintro e w3 ⟨rfl, hw3⟩
          have HB3 : Hid (Below w2.heap.size w2 w3) := Lib.hid (by rw [hw3]; exact below_drewN' (Below.refl _ _) _)
          clear hw3 cF cA cC
          go_wp2
          go_ret2
          exact ⟨rfl, RRet.below H.out HB3.out⟩
        | false =>
          rw [join_new h1 hl hf]
          rw [hf] at cF
          clear h1 ha hc hf
          generalize (findOf J (txtOf J (i : Int) ++ txtOf J (j : Int))).1 = z at *
          generalize txtOf J (i : Int) = x at *
          generalize txtOf J (j : Int) = y at *
          have hlI : ¬ (65536 : Int) < (x.size : Int) + (y.size : Int) := by omega
          have hlN : ¬ 9223372036854775807 < x.size + y.size := by omega
          have hwr : IntKind.i64.wrap ((x.size : Int) + (y.size : Int)) = (x.size : Int) + (y.size : Int) := IntWalk.i64_in _ (by omega)
          have HTL : Hid (N = 256 + J.length) := Lib.hid (by rw [← HN.out, texts_len])
          have hNb : (N : Int) ≤ 1000000 := by have := HTL.out; omega
          go_enter Try.func19, Try.ntmps19
          go_wp2_with fail
          refine cA.mono ?_
          rintro e w1 ⟨rfl, hw1⟩
          subst hw1
          go_wp2_with fail
          refine cC.mono ?_
          rintro e w2 ⟨rfl, hw1⟩
          subst hw1
          go_wp2
          go_quiet (fail)
          go_wp2
          go_quiet (fail)
          go_wp2_with fail
          refine (cF _ _ (H.out.drewN _)).mono ?_
          rintro e w3 ⟨rfl, hw3⟩
          have HB3 : Hid (Below w2.heap.size w2 w3) := Lib.hid (by rw [hw3]; exact below_drewN' (Below.refl _ _) _)
          have HQ : Hid (Rtab w3 base K (.slice (some ⟨g, 0, none⟩) N cap) p J) := Lib.hid (by rw [hw3]; exact H.out.drewN _)
          have hb3 : base ≤ w3.heap.size := Nat.le_trans hb0 HB3.out.size
          clear hw3 cF cA cC c0 c1 f0 f1 x0 y0
          obtain ⟨c0, c1, f0, f1⟩ := rcell HQ.out.cells
          obtain ⟨s, hs⟩ : ∃ s, x ++ y = s := ⟨_, rfl⟩
          have HSz := Lib.hid hs
          rw [hs]
          clear hs
          have HTx : Hid (ownE textE (w3.alloc (.cells #[.string s] 9)) base (.slice (some ⟨g, 0, none⟩) N cap) (textsOf J)) := Lib.hid (HQ.out.texts.alloc _)
          have HL1 : Hid ((textsOf J ++ [s]).length = N + 1) := Lib.hid (by rw [List.length_append, HN.out]; rfl)
          have HL2 : Hid ((J.map (·.2) ++ [((i : Int), (j : Int))]).length = J.length + 1) := Lib.hid (by simp)
          have HL3 : Hid ((J.map (·.2)).length = J.length) := Lib.hid (by simp)
          go_wp2_with (at_builtin; first
            | (refine wpList_append_elts textE rfl _ _ rfl base (.slice (some ⟨g, 0, none⟩) N cap) (.slice (some ⟨w3.heap.size, 0, none⟩) 1 1) (textsOf J) [s] rfl rfl HTx.out (one_elt textE w3 s) (someNone _ _ _) (by rw [HN.out]; simp only [List.length_singleton]; have := HTL.out; omega) (by rw [World.size_alloc]; omega) ?_; intro r w4 ho4 hgr4 _; obtain ⟨ra, rc, rfl, _⟩ := ho4.form; rw [HL1.out] at ho4; obtain ⟨k1, k2, k3, k4, k5⟩ := rj_one HQ.out hgr4 ho4; rw [HL1.out]; obtain ⟨z0, z1, z2, z3⟩ := rcell k1; obtain ⟨w5, hw5⟩ : ∃ w5, w4.setCell ⟨K, 0, none⟩ (.slice ra (N + 1) rc) = w5 := ⟨_, rfl⟩; rw [hw5] at k2 k3 k4 k5; obtain ⟨q0, q1, q2, q3⟩ := rcell k2; have K2 := Lib.hid k2; have K3 := Lib.hid k3; have K4 := Lib.hid k4; have K5 := Lib.hid k5; have hb5 : base ≤ w5.heap.size := Nat.le_trans hb3 k5.size; clear k1 k2 k3 k4 k5 ho4 hgr4)
            | (refine wpList_append_elts pairE rfl _ _ rfl base p (.slice (some ⟨w5.heap.size, 0, none⟩) 1 1) (J.map (·.2)) [((i : Int), (j : Int))] rfl rfl (K4.out.alloc _) (one_elt pairE w5 ((i : Int), (j : Int))) (someNone _ _ _) (by rw [HL3.out]; simp only [List.length_singleton]; omega) (by rw [World.size_alloc]; omega) ?_; intro r2 w6 ho6 hgr6 _; obtain ⟨rb, rd, rfl, _⟩ := ho6.form; rw [HL2.out] at ho6; obtain ⟨k1, k2, k3, k4, k5⟩ := rj_two K2.out K3.out K4.out hgr6 ho6; rw [HL2.out]; obtain ⟨s0, s1, s2, s3⟩ := rcell k1; obtain ⟨w7, hw7⟩ : ∃ w7, w6.setCell ⟨K, 1, none⟩ (.slice rb (J.length + 1) rd) = w7 := ⟨_, rfl⟩; rw [hw7] at k2 k3 k4 k5; obtain ⟨t0, t1, t2, t3⟩ := rcell k2; have N2 := Lib.hid k2; have N3 := Lib.hid k3; have N4 := Lib.hid k4; have N5 := Lib.hid k5; clear k1 k2 k3 k4 k5 ho6 hgr6))
          go_ret2
          refine ⟨?_, _, _, ⟨N2.out, H.out.ge, ?_, ?_⟩, ?_⟩
          · show Ending.returned (.tuple #[.int .i64 (N : Int), .int .i64 0]) = _
            rw [HTL.out]
          · rw [texts_more]
            rw [HSz.out]
            exact N3.out
          · rw [List.map_append]
            exact N4.out
          · refine ((Kept.of_below HB3.out (Nat.le_refl _)).trans K5.out fun i _ h => h).trans N5.out fun i _ h => ?_
            rcases h with h | h
            · exact .inl h
            · exact .inr (.inr h)
end Go.Proofs.Ythjblamfkfclhaa
