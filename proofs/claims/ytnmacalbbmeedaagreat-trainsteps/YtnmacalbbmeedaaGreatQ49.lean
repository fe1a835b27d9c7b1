/- Texts in one: TrL, TrC. -/
import Derived.Test.YtnmacalbbmeedaaGreatQ44
import Derived.Test.YtnmacalbbmeedaaGreatQ07
import Derived.Deep.Cut
/- TrainLearns over what is asked of the program. -/
namespace Go.Proofs.YtnmacalbbmeedaaGreat
open Go.RowKit

set_option maxRecDepth 100000 in
set_option maxHeartbeats 8000000 in
theorem trainLearns_over (hT : TLearns) (x : Value) (b d lim : Int) (w : World) (L : Bag) (hx : wordsAt w x L) (hL : L.length ≤ 9223372036854775807) (hf : Fits L) (hb : FitsB b) (hd : FitsB d) (hlim : FitsB lim) :
    Calls Tryz.prog 3 #[x, .agg #[.int .i64 b, .int .i64 d, .int .i64 lim]] w fun e w' => e = .returned (.bool true) ∧ Below w.heap.size w w' := by
  obtain ⟨M, hM⟩ : ∃ M, w.heap.size = M := ⟨_, rfl⟩
  obtain ⟨wa, hwa⟩ : ∃ wa, w.alloc (.cells #[.int .i64 b, .int .i64 d, .int .i64 lim] 24) = wa := ⟨_, rfl⟩
  have hba : wa.heap[M]? = some (.cells #[.int .i64 b, .int .i64 d, .int .i64 lim] 24 (0, 0)) := by rw [← hwa, ← hM]; exact heap_alloc_new w _
  have hbe : Below w.heap.size w wa := by rw [← hwa]; exact (Below.refl _ w).alloc (Nat.le_refl _) _
  have hlt : M < wa.heap.size := (Array.getElem?_eq_some_iff.1 hba).1
  have HCB : Hid (∀ W, Below wa.heap.size wa W → W.cell? ⟨M, 0, none⟩ = some (.int .i64 b) ∧ W.cell? ⟨M, 1, none⟩ = some (.int .i64 d) ∧ W.cell? ⟨M, 2, none⟩ = some (.int .i64 lim)) := Lib.hid fun W hb => by
    have h := (hb.block M hlt).trans hba
    exact ⟨by rw [cell_of_row W M _ _ _ (0, 0) h]; rfl, by rw [cell_of_row W M _ _ _ (0, 0) h]; rfl, by rw [cell_of_row W M _ _ _ (0, 0) h]; rfl⟩
  have cA := tawake_any hT wa
  have HX := Lib.hid hx
  have HF := Lib.hid hf
  have HT := Lib.hid hT
  have HBE := Lib.hid hbe
  have HFB := Lib.hid (And.intro hb (And.intro hd hlim))
  have HLL := Lib.hid hL
  clear hx hf hT hba hbe hlt hb hd hlim hL
  go_enter Tryz.func3, Tryz.ntmps3
  go_wp2_with fail
  refine cA.mono ?_
  rintro e w1 ⟨rfl, hb1⟩
  have HBA1 := Lib.hid hb1
  have HB1 := Lib.hid (HBE.out.trans (hb1.mono HBE.out.size))
  have cG := tgreat_any x L w1 (HX.out.below HB1.out (Nat.le_refl _)) HLL.out
  obtain ⟨b0, b1, b2⟩ := HCB.out w1 hb1
  clear cA hb1 hwa hM
  go_wp2_with fail
  refine cG.mono ?_
  rintro e w2 ⟨g, rfl, rfl, hg⟩
  clear cG
  cases g with
  | true =>
    go_wp2
    go_ret
    exact ⟨rfl, HB1.out⟩
  | false =>
    obtain ⟨⟨h60, h300⟩, _⟩ := hg rfl
    have cN := HT.out x L b d lim w2 (HX.out.below HB1.out (Nat.le_refl _)) h60 HF.out h300 HFB.out.1 HFB.out.2.1 HFB.out.2.2
    have HFEW := Lib.hid (And.intro h60 h300)
    clear hg h60 h300
    go_wp2_with fail
    refine cN.mono ?_
    rintro e w3 ⟨v, ms, ⟨s1, s2, s3, s4, s5, s6⟩, rfl, hv, hb3, h1, h2, _⟩
    obtain ⟨z, hz⟩ : ∃ z, errT L b d lim = z := ⟨_, rfl⟩
    rw [hz] at h1 h2
    have H12 := Lib.hid (And.intro h1 h2)
    have HZ := Lib.hid hz
    obtain ⟨w4, hw4⟩ : ∃ w4, w3.alloc (.cells #[.int .i64 s1, .int .i64 s2, .int .i64 s3, .int .i64 s4, .int .i64 s5, .int .i64 s6] 29) = w4 := ⟨_, rfl⟩
    obtain ⟨B, hB⟩ : ∃ B, w3.heap.size = B := ⟨_, rfl⟩
    have h4 : w4.heap[B]? = some (.cells #[.int .i64 s1, .int .i64 s2, .int .i64 s3, .int .i64 s4, .int .i64 s5, .int .i64 s6] 29 (0, 0)) := by rw [← hw4, ← hB]; exact heap_alloc_new _ _
    have hb34 : Below w3.heap.size w3 w4 := by rw [← hw4]; exact (Below.refl _ w3).alloc (Nat.le_refl _) _
    have hb24 : Below w2.heap.size w2 w4 := hb3.trans (hb34.mono hb3.size)
    have hbw4 := HB1.out.trans (hb24.mono HB1.out.size)
    have hba4 := HBA1.out.trans (hb24.mono HBA1.out.size)
    have cR := rtrain_any x L b d lim w4 (HX.out.below hbw4 (Nat.le_refl _)) (by have := HFEW.out.1; omega) HF.out (by have := HFEW.out.2; omega)
    obtain ⟨q0, q1, q2⟩ := HCB.out w4 hba4
    have HV := Lib.hid (hv.below hb34 (Nat.le_refl _))
    have HB4 := Lib.hid hbw4
    have H4 := Lib.hid h4
    rw [hz]
    unfold stV
    simp only
    clear cN hv hb3 h1 h2 hz h4 hb34 hb24 hbw4 hba4 b0 b1 b2
    go_wp2_with fail
    refine cR.mono ?_
    rintro e w5 ⟨v5, ks, rfl, ho, hb5, k1, k2⟩
    rw [HZ.out]
    rw [HZ.out] at k1 k2
    have heq : ms = ks := by
      by_cases h0 : z = 0
      · exact learned_uni (H12.out.2 h0).1 (k2 h0)
      · rw [(H12.out.1 h0).1, k1 h0]
    subst heq
    have hsm : ms.length ≤ 300 := by
      by_cases h0 : z = 0
      · have h5 := (H12.out.2 h0).2.le
        have := HFEW.out.2
        omega
      · rw [(H12.out.1 h0).1]; simp
    have cS := nvsame_true v v5 ms w5 (HV.out.below hb5 (Nat.le_refl _)) ho.reads (by omega)
    have HB5 := Lib.hid (HB4.out.trans (hb5.mono HB4.out.size))
    have H5 := Lib.hid ((hb5.block B (Array.getElem?_eq_some_iff.1 H4.out).1).trans H4.out)
    clear cR ho hb5 k1 k2 hw4 hB q0 q1 q2 hsm
    go_wp2_with fail
    refine cS.mono ?_
    rintro e w6 ⟨rfl, hb6⟩
    have HB6 := Lib.hid (HB5.out.trans (hb6.mono HB5.out.size))
    have h6 := (hb6.block B (Array.getElem?_eq_some_iff.1 H5.out).1).trans H5.out
    clear hb6 cS
    by_cases h0 : z = 0
    · subst h0
      clear h6
      go_wp2
      go_ret
      exact ⟨rfl, HB6.out⟩
    · obtain ⟨_, hs⟩ := H12.out.1 h0
      unfold noS at hs
      simp only [StN.mk.injEq] at hs
      obtain ⟨rfl, rfl, rfl, rfl, rfl, rfl⟩ := hs
      have c0 : w6.cell? ⟨B, 0, none⟩ = some (.int .i64 0) := by rw [cell_of_row w6 B _ _ _ (0, 0) h6]; rfl
      have c1 : w6.cell? ⟨B, 1, none⟩ = some (.int .i64 0) := by rw [cell_of_row w6 B _ _ _ (0, 0) h6]; rfl
      have c2 : w6.cell? ⟨B, 2, none⟩ = some (.int .i64 0) := by rw [cell_of_row w6 B _ _ _ (0, 0) h6]; rfl
      have c3 : w6.cell? ⟨B, 3, none⟩ = some (.int .i64 0) := by rw [cell_of_row w6 B _ _ _ (0, 0) h6]; rfl
      have c4 : w6.cell? ⟨B, 4, none⟩ = some (.int .i64 0) := by rw [cell_of_row w6 B _ _ _ (0, 0) h6]; rfl
      have c5 : w6.cell? ⟨B, 5, none⟩ = some (.int .i64 0) := by rw [cell_of_row w6 B _ _ _ (0, 0) h6]; rfl
      have hq := stats_eql w6
      unfold stV noS at hq
      simp only at hq
      clear h6
      go_wp2
      go_ret
      exact ⟨rfl, HB6.out⟩
end Go.Proofs.YtnmacalbbmeedaaGreat
/- TrainBudget over what is asked of the program. -/
namespace Go.Proofs.YtnmacalbbmeedaaGreat
open Go.RowKit

section
variable {P : Program} {ops : Array Oper} {Q : Exit → Act → World → Prop} {md : Region.Mode} {S : World → Prop} {late : List Nat}
set_option maxRecDepth 100000 in
/-- One of three. -/
theorem K_three {n : Nat} {l : Array Bool} {a : Act} {w : World} (i j m : Nat) {o p r : Oper} (hr : Region.ready md ops l = [i, j, m]) (ho : ops.toList[i]? = some o) (hp : ops.toList[j]? = some p) (hr2 : ops.toList[m]? = some r)
    (h : ∀ K' : Act → World → Prop, Shut (∀ a w, (late.contains i = false → S w) → AnyK P md ops Q S late n (l.setIfInBounds i true) a w → K' a w) → if Region.wanted o (yielded ops a.tmps) = true then Oper.wp P o a w K' Q else K' (a.put o.dst undef) w)
    (k : ∀ K' : Act → World → Prop, Shut (∀ a w, (late.contains j = false → S w) → AnyK P md ops Q S late n (l.setIfInBounds j true) a w → K' a w) → if Region.wanted p (yielded ops a.tmps) = true then Oper.wp P p a w K' Q else K' (a.put p.dst undef) w)
    (q : ∀ K' : Act → World → Prop, Shut (∀ a w, (late.contains m = false → S w) → AnyK P md ops Q S late n (l.setIfInBounds m true) a w → K' a w) → if Region.wanted r (yielded ops a.tmps) = true then Oper.wp P r a w K' Q else K' (a.put r.dst undef) w) : AnyK P md ops Q S late (n + 1) l a w :=
  K_ready hr (by simp) (AllK.at ho h (AllK.at hp k (AllK.at hr2 q AllK.nil)))
end
abbrev P3 := Int × Int × Int
abbrev c3 (p : P3) : Obj := .cells #[.int .i64 p.1, .int .i64 p.2.1, .int .i64 p.2.2] 24 (0, 0)
set_option maxRecDepth 100000 in
theorem c3_set0 {W : World} {k : Nat} {p : P3} (h : W.heap[k]? = some (c3 p)) (v : Int) : (W.setCell ⟨k, 0, none⟩ (.int .i64 v)).heap[k]? = some (c3 (v, p.2)) := heap_setCell_at h (i := 0) (.int .i64 v)
set_option maxRecDepth 100000 in
theorem c3_set1 {W : World} {k : Nat} {p : P3} (h : W.heap[k]? = some (c3 p)) (v : Int) : (W.setCell ⟨k, 1, none⟩ (.int .i64 v)).heap[k]? = some (c3 (p.1, v, p.2.2)) := heap_setCell_at h (i := 1) (.int .i64 v)
set_option maxRecDepth 100000 in
theorem c3_set2 {W : World} {k : Nat} {p : P3} (h : W.heap[k]? = some (c3 p)) (v : Int) : (W.setCell ⟨k, 2, none⟩ (.int .i64 v)).heap[k]? = some (c3 (p.1, p.2.1, v)) := heap_setCell_at h (i := 2) (.int .i64 v)
/-- The boxes of four parameters. -/
structure Bud (w3 : World) (B9 X Y Z : Nat) (p x y z : P3) (W : World) : Prop where
  bel : Below w3.heap.size w3 W
  h9 : W.heap[B9]? = some (c3 p)
  hx : W.heap[X]? = some (c3 x)
  hy : W.heap[Y]? = some (c3 y)
  hz : W.heap[Z]? = some (c3 z)
  ne : B9 < w3.heap.size ∧ w3.heap.size ≤ X ∧ w3.heap.size ≤ Y ∧ w3.heap.size ≤ Z ∧ X ≠ Y ∧ X ≠ Z ∧ Y ≠ Z
variable {w3 W W' : World} {B9 X Y Z : Nat} {p x y z : P3}
set_option maxRecDepth 100000 in
theorem Bud.below (h : Bud w3 B9 X Y Z p x y z W) (hb : Below W.heap.size W W') : Bud w3 B9 X Y Z p x y z W' :=
  ⟨h.bel.trans (hb.mono h.bel.size), (hb.block B9 (Array.getElem?_eq_some_iff.1 h.h9).1).trans h.h9, (hb.block X (Array.getElem?_eq_some_iff.1 h.hx).1).trans h.hx, (hb.block Y (Array.getElem?_eq_some_iff.1 h.hy).1).trans h.hy, (hb.block Z (Array.getElem?_eq_some_iff.1 h.hz).1).trans h.hz, h.ne⟩
set_option maxRecDepth 100000 in
theorem Bud.c9 (h : Bud w3 B9 X Y Z p x y z W) : W.cell? ⟨B9, 0, none⟩ = some (.int .i64 p.1) ∧ W.cell? ⟨B9, 1, none⟩ = some (.int .i64 p.2.1) ∧ W.cell? ⟨B9, 2, none⟩ = some (.int .i64 p.2.2) :=
  ⟨by rw [cell_of_row W B9 _ _ _ (0, 0) h.h9]; rfl, by rw [cell_of_row W B9 _ _ _ (0, 0) h.h9]; rfl, by rw [cell_of_row W B9 _ _ _ (0, 0) h.h9]; rfl⟩
set_option maxRecDepth 100000 in
theorem Bud.x0 (h : Bud w3 B9 X Y Z p x y z W) (v : Int) : Bud w3 B9 X Y Z p (v, x.2) y z (W.setCell ⟨X, 0, none⟩ (.int .i64 v)) :=
  ⟨h.bel.setCell (p := ⟨X, 0, none⟩) (show w3.heap.size ≤ X by have := h.ne; omega) _, (Below.heap_setCell W ⟨X, 0, none⟩ (.int .i64 v) B9 (by have := h.ne; show B9 ≠ X; omega)).trans h.h9, c3_set0 h.hx v, (Below.heap_setCell W ⟨X, 0, none⟩ (.int .i64 v) Y (by have := h.ne; show Y ≠ X; omega)).trans h.hy, (Below.heap_setCell W ⟨X, 0, none⟩ (.int .i64 v) Z (by have := h.ne; show Z ≠ X; omega)).trans h.hz, h.ne⟩
set_option maxRecDepth 100000 in
theorem Bud.xc0 (h : Bud w3 B9 X Y Z p x y z W) : W.cell? ⟨X, 0, none⟩ = some (.int .i64 x.1) ∧ W.frozen? ⟨X, 0, none⟩ = false :=
  ⟨by rw [cell_of_row W X _ _ _ (0, 0) h.hx]; rfl, Lib.frozen_of_heap h.hx _⟩
set_option maxRecDepth 100000 in
theorem Bud.x1 (h : Bud w3 B9 X Y Z p x y z W) (v : Int) : Bud w3 B9 X Y Z p (x.1, v, x.2.2) y z (W.setCell ⟨X, 1, none⟩ (.int .i64 v)) :=
  ⟨h.bel.setCell (p := ⟨X, 1, none⟩) (show w3.heap.size ≤ X by have := h.ne; omega) _, (Below.heap_setCell W ⟨X, 1, none⟩ (.int .i64 v) B9 (by have := h.ne; show B9 ≠ X; omega)).trans h.h9, c3_set1 h.hx v, (Below.heap_setCell W ⟨X, 1, none⟩ (.int .i64 v) Y (by have := h.ne; show Y ≠ X; omega)).trans h.hy, (Below.heap_setCell W ⟨X, 1, none⟩ (.int .i64 v) Z (by have := h.ne; show Z ≠ X; omega)).trans h.hz, h.ne⟩
set_option maxRecDepth 100000 in
theorem Bud.xc1 (h : Bud w3 B9 X Y Z p x y z W) : W.cell? ⟨X, 1, none⟩ = some (.int .i64 x.2.1) ∧ W.frozen? ⟨X, 1, none⟩ = false :=
  ⟨by rw [cell_of_row W X _ _ _ (0, 0) h.hx]; rfl, Lib.frozen_of_heap h.hx _⟩
set_option maxRecDepth 100000 in
theorem Bud.x2 (h : Bud w3 B9 X Y Z p x y z W) (v : Int) : Bud w3 B9 X Y Z p (x.1, x.2.1, v) y z (W.setCell ⟨X, 2, none⟩ (.int .i64 v)) :=
  ⟨h.bel.setCell (p := ⟨X, 2, none⟩) (show w3.heap.size ≤ X by have := h.ne; omega) _, (Below.heap_setCell W ⟨X, 2, none⟩ (.int .i64 v) B9 (by have := h.ne; show B9 ≠ X; omega)).trans h.h9, c3_set2 h.hx v, (Below.heap_setCell W ⟨X, 2, none⟩ (.int .i64 v) Y (by have := h.ne; show Y ≠ X; omega)).trans h.hy, (Below.heap_setCell W ⟨X, 2, none⟩ (.int .i64 v) Z (by have := h.ne; show Z ≠ X; omega)).trans h.hz, h.ne⟩
set_option maxRecDepth 100000 in
theorem Bud.xc2 (h : Bud w3 B9 X Y Z p x y z W) : W.cell? ⟨X, 2, none⟩ = some (.int .i64 x.2.2) ∧ W.frozen? ⟨X, 2, none⟩ = false :=
  ⟨by rw [cell_of_row W X _ _ _ (0, 0) h.hx]; rfl, Lib.frozen_of_heap h.hx _⟩
set_option maxRecDepth 100000 in
theorem Bud.y0 (h : Bud w3 B9 X Y Z p x y z W) (v : Int) : Bud w3 B9 X Y Z p x (v, y.2) z (W.setCell ⟨Y, 0, none⟩ (.int .i64 v)) :=
  ⟨h.bel.setCell (p := ⟨Y, 0, none⟩) (show w3.heap.size ≤ Y by have := h.ne; omega) _, (Below.heap_setCell W ⟨Y, 0, none⟩ (.int .i64 v) B9 (by have := h.ne; show B9 ≠ Y; omega)).trans h.h9, (Below.heap_setCell W ⟨Y, 0, none⟩ (.int .i64 v) X (by have := h.ne; show X ≠ Y; omega)).trans h.hx, c3_set0 h.hy v, (Below.heap_setCell W ⟨Y, 0, none⟩ (.int .i64 v) Z (by have := h.ne; show Z ≠ Y; omega)).trans h.hz, h.ne⟩
set_option maxRecDepth 100000 in
theorem Bud.yc0 (h : Bud w3 B9 X Y Z p x y z W) : W.cell? ⟨Y, 0, none⟩ = some (.int .i64 y.1) ∧ W.frozen? ⟨Y, 0, none⟩ = false :=
  ⟨by rw [cell_of_row W Y _ _ _ (0, 0) h.hy]; rfl, Lib.frozen_of_heap h.hy _⟩
set_option maxRecDepth 100000 in
theorem Bud.y1 (h : Bud w3 B9 X Y Z p x y z W) (v : Int) : Bud w3 B9 X Y Z p x (y.1, v, y.2.2) z (W.setCell ⟨Y, 1, none⟩ (.int .i64 v)) :=
  ⟨h.bel.setCell (p := ⟨Y, 1, none⟩) (show w3.heap.size ≤ Y by have := h.ne; omega) _, (Below.heap_setCell W ⟨Y, 1, none⟩ (.int .i64 v) B9 (by have := h.ne; show B9 ≠ Y; omega)).trans h.h9, (Below.heap_setCell W ⟨Y, 1, none⟩ (.int .i64 v) X (by have := h.ne; show X ≠ Y; omega)).trans h.hx, c3_set1 h.hy v, (Below.heap_setCell W ⟨Y, 1, none⟩ (.int .i64 v) Z (by have := h.ne; show Z ≠ Y; omega)).trans h.hz, h.ne⟩
set_option maxRecDepth 100000 in
theorem Bud.yc1 (h : Bud w3 B9 X Y Z p x y z W) : W.cell? ⟨Y, 1, none⟩ = some (.int .i64 y.2.1) ∧ W.frozen? ⟨Y, 1, none⟩ = false :=
  ⟨by rw [cell_of_row W Y _ _ _ (0, 0) h.hy]; rfl, Lib.frozen_of_heap h.hy _⟩
set_option maxRecDepth 100000 in
theorem Bud.y2 (h : Bud w3 B9 X Y Z p x y z W) (v : Int) : Bud w3 B9 X Y Z p x (y.1, y.2.1, v) z (W.setCell ⟨Y, 2, none⟩ (.int .i64 v)) :=
  ⟨h.bel.setCell (p := ⟨Y, 2, none⟩) (show w3.heap.size ≤ Y by have := h.ne; omega) _, (Below.heap_setCell W ⟨Y, 2, none⟩ (.int .i64 v) B9 (by have := h.ne; show B9 ≠ Y; omega)).trans h.h9, (Below.heap_setCell W ⟨Y, 2, none⟩ (.int .i64 v) X (by have := h.ne; show X ≠ Y; omega)).trans h.hx, c3_set2 h.hy v, (Below.heap_setCell W ⟨Y, 2, none⟩ (.int .i64 v) Z (by have := h.ne; show Z ≠ Y; omega)).trans h.hz, h.ne⟩
set_option maxRecDepth 100000 in
theorem Bud.yc2 (h : Bud w3 B9 X Y Z p x y z W) : W.cell? ⟨Y, 2, none⟩ = some (.int .i64 y.2.2) ∧ W.frozen? ⟨Y, 2, none⟩ = false :=
  ⟨by rw [cell_of_row W Y _ _ _ (0, 0) h.hy]; rfl, Lib.frozen_of_heap h.hy _⟩
set_option maxRecDepth 100000 in
theorem Bud.z0 (h : Bud w3 B9 X Y Z p x y z W) (v : Int) : Bud w3 B9 X Y Z p x y (v, z.2) (W.setCell ⟨Z, 0, none⟩ (.int .i64 v)) :=
  ⟨h.bel.setCell (p := ⟨Z, 0, none⟩) (show w3.heap.size ≤ Z by have := h.ne; omega) _, (Below.heap_setCell W ⟨Z, 0, none⟩ (.int .i64 v) B9 (by have := h.ne; show B9 ≠ Z; omega)).trans h.h9, (Below.heap_setCell W ⟨Z, 0, none⟩ (.int .i64 v) X (by have := h.ne; show X ≠ Z; omega)).trans h.hx, (Below.heap_setCell W ⟨Z, 0, none⟩ (.int .i64 v) Y (by have := h.ne; show Y ≠ Z; omega)).trans h.hy, c3_set0 h.hz v, h.ne⟩
set_option maxRecDepth 100000 in
theorem Bud.zc0 (h : Bud w3 B9 X Y Z p x y z W) : W.cell? ⟨Z, 0, none⟩ = some (.int .i64 z.1) ∧ W.frozen? ⟨Z, 0, none⟩ = false :=
  ⟨by rw [cell_of_row W Z _ _ _ (0, 0) h.hz]; rfl, Lib.frozen_of_heap h.hz _⟩
set_option maxRecDepth 100000 in
theorem Bud.z1 (h : Bud w3 B9 X Y Z p x y z W) (v : Int) : Bud w3 B9 X Y Z p x y (z.1, v, z.2.2) (W.setCell ⟨Z, 1, none⟩ (.int .i64 v)) :=
  ⟨h.bel.setCell (p := ⟨Z, 1, none⟩) (show w3.heap.size ≤ Z by have := h.ne; omega) _, (Below.heap_setCell W ⟨Z, 1, none⟩ (.int .i64 v) B9 (by have := h.ne; show B9 ≠ Z; omega)).trans h.h9, (Below.heap_setCell W ⟨Z, 1, none⟩ (.int .i64 v) X (by have := h.ne; show X ≠ Z; omega)).trans h.hx, (Below.heap_setCell W ⟨Z, 1, none⟩ (.int .i64 v) Y (by have := h.ne; show Y ≠ Z; omega)).trans h.hy, c3_set1 h.hz v, h.ne⟩
set_option maxRecDepth 100000 in
theorem Bud.zc1 (h : Bud w3 B9 X Y Z p x y z W) : W.cell? ⟨Z, 1, none⟩ = some (.int .i64 z.2.1) ∧ W.frozen? ⟨Z, 1, none⟩ = false :=
  ⟨by rw [cell_of_row W Z _ _ _ (0, 0) h.hz]; rfl, Lib.frozen_of_heap h.hz _⟩
set_option maxRecDepth 100000 in
theorem Bud.z2 (h : Bud w3 B9 X Y Z p x y z W) (v : Int) : Bud w3 B9 X Y Z p x y (z.1, z.2.1, v) (W.setCell ⟨Z, 2, none⟩ (.int .i64 v)) :=
  ⟨h.bel.setCell (p := ⟨Z, 2, none⟩) (show w3.heap.size ≤ Z by have := h.ne; omega) _, (Below.heap_setCell W ⟨Z, 2, none⟩ (.int .i64 v) B9 (by have := h.ne; show B9 ≠ Z; omega)).trans h.h9, (Below.heap_setCell W ⟨Z, 2, none⟩ (.int .i64 v) X (by have := h.ne; show X ≠ Z; omega)).trans h.hx, (Below.heap_setCell W ⟨Z, 2, none⟩ (.int .i64 v) Y (by have := h.ne; show Y ≠ Z; omega)).trans h.hy, c3_set2 h.hz v, h.ne⟩
set_option maxRecDepth 100000 in
theorem Bud.zc2 (h : Bud w3 B9 X Y Z p x y z W) : W.cell? ⟨Z, 2, none⟩ = some (.int .i64 z.2.2) ∧ W.frozen? ⟨Z, 2, none⟩ = false :=
  ⟨by rw [cell_of_row W Z _ _ _ (0, 0) h.hz]; rfl, Lib.frozen_of_heap h.hz _⟩
def BudRel (w3 : World) (B9 : Nat) (p : P3) (s10 s11 s12 : Value) (wx : World) : Prop := ∃ X Y Z, s10 = .pointer (some ⟨X, 0, none⟩) ∧ s11 = .pointer (some ⟨Y, 0, none⟩) ∧ s12 = .pointer (some ⟨Z, 0, none⟩) ∧ Bud w3 B9 X Y Z p p p p wx
abbrev At9 (B9 : Nat) (p : P3) (W : World) : Prop := W.cell? ⟨B9, 0, none⟩ = some (.int .i64 p.1) ∧ W.cell? ⟨B9, 1, none⟩ = some (.int .i64 p.2.1) ∧ W.cell? ⟨B9, 2, none⟩ = some (.int .i64 p.2.2)
end Go.Proofs.YtnmacalbbmeedaaGreat
