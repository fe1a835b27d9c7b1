/- The document's Add. -/
import Derived.Test.YthgjpkemgpkknaaRSetW
import Derived.Test.YthgjpkemgpkknaaCAdd
namespace Go.Proofs.Ythgjpkemgpkknaa
open Go.RowKit Go.Maps

theorem RSRet.from {base K : Nat} {L : Cn} {w w1 w2 : World} (hb : Below w.heap.size w w1) (h : RSRet base K L w1 w2) : RSRet base K L w w2 := by
  obtain ⟨v, u, hr, hk⟩ := h
  exact ⟨v, u, hr, (Kept.of_below (S := fun k => k = K) hb (Nat.le_refl _)).trans hk fun _ _ h => h⟩
theorem RSRet.of_below {base K : Nat} {v u : Value} {L : Cn} {w w' : World} (h : Rct w base K v u L) (hb : Below w.heap.size w w') : RSRet base K L w w' := ⟨v, u, h.below hb, Kept.of_below hb (Nat.le_refl _)⟩
set_option maxHeartbeats 4000000 in
theorem radd_any (base K : Nat) (v u : Value) (L : Cn) (p q b t : Int) (w : World) (h : Rct w base K v u L) (hg : GoodC L) (hb : FitsZ b) (ht : FitsZ t) (hl : L.length ≤ 1000) :
    Calls Try.prog 9 #[.pointer (some ⟨K, 0, none⟩), .agg #[.int .i64 p, .int .i64 q], .int .i64 b, .int .i64 t] w fun e w' => e = .returned (.int .i64 (addC L (p, q) b t).2) ∧ RSRet base K (addC L (p, q) b t).1 w w' := by
  unfold addC
  by_cases h0 : t < 0
  · rw [if_pos h0]
    have HR : Hid (RSRet base K L w (w.alloc (.cells #[.int .i64 p, .int .i64 q] 24))) := Lib.hid (RSRet.of_below h ((Below.refl _ w).alloc (Nat.le_refl _) _))
    clear h hg
    go_enter Try.func9, Try.ntmps9
    go_wp2
    go_ret
    exact ⟨rfl, HR.out⟩
  · rw [if_neg h0]
    obtain ⟨w1, hw1⟩ : ∃ w1, w1 = w.alloc (.cells #[.int .i64 p, .int .i64 q] 24) := ⟨_, rfl⟩
    have h1 : Rct w1 base K v u L := by rw [hw1]; exact h.alloc _
    have HB : Hid (Below w.heap.size w w1) := Lib.hid (by rw [hw1]; exact (Below.refl _ w).alloc (Nat.le_refl _) _)
    have b0 : w1.cell? ⟨w.heap.size, 0, none⟩ = some (.int .i64 p) := by rw [hw1]; simp
    have b1 : w1.cell? ⟨w.heap.size, 1, none⟩ = some (.int .i64 q) := by rw [hw1]; simp
    have hlt : w.heap.size < w1.heap.size := by rw [hw1]; simp
    have hgc := hg.get (p, q)
    have cG := rget_any base K v u L p q w1 h1 (by omega)
    have HS : Hid (∀ W n, Below w1.heap.size w1 W → Calls Try.prog 20 #[.pointer (some ⟨K, 0, none⟩), .agg #[.int .i64 p, .int .i64 q], .int .i64 n] W fun e w' => e = .returned (.tuple #[]) ∧ RSRet base K (setC L (p, q) n) W w') := Lib.hid (fun W n hW => rset_any base K v u L p q n W (h1.below hW) hl)
    have HR : Hid (Rct w1 base K v u L) := Lib.hid h1
    have hw' := hw1.symm
    unfold movOf
    generalize getC L (p, q) = c at *
    clear h h1 hw1 hg
    by_cases hbp : 0 ≤ b
    · rw [if_pos hbp]
      have cM := fun w => refMul_any b t w hb.1 hb.2 ht.1 ht.2
      have hin := mulOf_in b t
      generalize mulOf b t = s at *
      obtain ⟨d, ok⟩ := s
      simp only at hin cM
      cases ok with
      | false =>
        simp only [cond_false]
        clear hin
        go_enter Try.func9, Try.ntmps9
        go_wp2_with fail
        refine cG.mono ?_
        rintro e w2 ⟨rfl, n2, hw2⟩
        have HB2 : Hid (Below w1.heap.size w1 w2) := Lib.hid (by rw [hw2]; exact below_drewN' ((Below.refl _ w1).alloc (Nat.le_refl _) _) _)
        clear hw2
        go_wp2_with (go_at_call 18; refine (cM _).mono ?_; rintro e w3 ⟨rfl, rfl⟩)
        go_ret
        exact ⟨rfl, RSRet.from HB.out (RSRet.of_below HR.out HB2.out)⟩
      | true =>
        simp only [cond_true]
        have cA := fun w => refAdd_any c d w (by omega) hgc.2 (by omega) hin.2
        generalize addOf c d = y at *
        obtain ⟨y1, y2⟩ := y
        simp only at cA ⊢
        cases y2 with
        | false =>
          simp only [cond_false]
          go_enter Try.func9, Try.ntmps9
          go_wp2_with fail
          refine cG.mono ?_
          rintro e w2 ⟨rfl, n2, hw2⟩
          have HB2 : Hid (Below w1.heap.size w1 w2) := Lib.hid (by rw [hw2]; exact below_drewN' ((Below.refl _ w1).alloc (Nat.le_refl _) _) _)
          clear hw2
          go_wp2_with (first | (go_at_call 18; refine (cM _).mono ?_; rintro e w3 ⟨rfl, rfl⟩) | (go_at_call 19; refine (cA _).mono ?_; rintro e w3 ⟨rfl, rfl⟩))
          go_ret
          exact ⟨rfl, RSRet.from HB.out (RSRet.of_below HR.out HB2.out)⟩
        | true =>
          simp only [cond_true]
          go_enter Try.func9, Try.ntmps9
          go_wp2_with fail
          refine cG.mono ?_
          rintro e w2 ⟨rfl, n2, hw2⟩
          have HB2 : Hid (Below w1.heap.size w1 w2) := Lib.hid (by rw [hw2]; exact below_drewN' ((Below.refl _ w1).alloc (Nat.le_refl _) _) _)
          have e0 : w2.cell? ⟨w.heap.size, 0, none⟩ = some (.int .i64 p) := (HB2.out.cell hlt).trans b0
          have e1 : w2.cell? ⟨w.heap.size, 1, none⟩ = some (.int .i64 q) := (HB2.out.cell hlt).trans b1
          have cS := HS.out w2 y1 HB2.out
          clear hw2
          go_wp2_with (first | (go_at_call 18; refine (cM _).mono ?_; rintro e w3 ⟨rfl, rfl⟩) | (go_at_call 19; refine (cA _).mono ?_; rintro e w3 ⟨rfl, rfl⟩) | (go_at_call 20; refine cS.mono ?_; rintro e w4 ⟨rfl, hr4⟩; have HR4 := Lib.hid hr4; clear hr4))
          go_ret
          exact ⟨rfl, RSRet.from HB.out (RSRet.from HB2.out HR4.out)⟩
    · rw [if_neg hbp]
      have hw := negW_wrap hb
      have hn := negW_fits hb
      have cM := fun w => refMul_any (negW b) t w hn.1 hn.2 ht.1 ht.2
      have hin := mulOf_in (negW b) t
      generalize negW b = nb at *
      generalize mulOf nb t = s at *
      obtain ⟨d, ok⟩ := s
      simp only at hin cM
      cases ok with
      | false =>
        simp only [cond_false]
        clear hin
        go_enter Try.func9, Try.ntmps9
        go_wp2_with fail
        refine cG.mono ?_
        rintro e w2 ⟨rfl, n2, hw2⟩
        have HB2 : Hid (Below w1.heap.size w1 w2) := Lib.hid (by rw [hw2]; exact below_drewN' ((Below.refl _ w1).alloc (Nat.le_refl _) _) _)
        clear hw2
        go_wp2_with (go_at_call 18; refine (cM _).mono ?_; rintro e w3 ⟨rfl, rfl⟩)
        go_ret
        exact ⟨rfl, RSRet.from HB.out (RSRet.of_below HR.out HB2.out)⟩
      | true =>
        simp only [cond_true]
        by_cases hd : d ≤ c
        · rw [if_pos hd]
          simp only [cond_true]
          have hd' : ¬ c < d := by omega
          go_enter Try.func9, Try.ntmps9
          go_wp2_with fail
          refine cG.mono ?_
          rintro e w2 ⟨rfl, n2, hw2⟩
          have HB2 : Hid (Below w1.heap.size w1 w2) := Lib.hid (by rw [hw2]; exact below_drewN' ((Below.refl _ w1).alloc (Nat.le_refl _) _) _)
          have e0 : w2.cell? ⟨w.heap.size, 0, none⟩ = some (.int .i64 p) := (HB2.out.cell hlt).trans b0
          have e1 : w2.cell? ⟨w.heap.size, 1, none⟩ = some (.int .i64 q) := (HB2.out.cell hlt).trans b1
          have cS := HS.out w2 (c - d) HB2.out
          clear hw2
          go_wp2_with (first | (go_at_call 18; refine (cM _).mono ?_; rintro e w3 ⟨rfl, rfl⟩) | (go_at_call 20; refine cS.mono ?_; rintro e w4 ⟨rfl, hr4⟩; have HR4 := Lib.hid hr4; clear hr4))
          go_ret
          exact ⟨rfl, RSRet.from HB.out (RSRet.from HB2.out HR4.out)⟩
        · rw [if_neg hd]
          simp only [cond_false]
          have hd' : c < d := by omega
          go_enter Try.func9, Try.ntmps9
          go_wp2_with fail
          refine cG.mono ?_
          rintro e w2 ⟨rfl, n2, hw2⟩
          have HB2 : Hid (Below w1.heap.size w1 w2) := Lib.hid (by rw [hw2]; exact below_drewN' ((Below.refl _ w1).alloc (Nat.le_refl _) _) _)
          clear hw2
          go_wp2_with (go_at_call 18; refine (cM _).mono ?_; rintro e w3 ⟨rfl, rfl⟩)
          go_ret
          exact ⟨rfl, RSRet.from HB.out (RSRet.of_below HR.out HB2.out)⟩
end Go.Proofs.Ythgjpkemgpkknaa
