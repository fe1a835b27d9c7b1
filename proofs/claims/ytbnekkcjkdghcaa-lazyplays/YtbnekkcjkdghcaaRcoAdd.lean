/- What becomes of a count, as plain lists; the document's Add. -/
import Derived.Test.YtbnekkcjkdghcaaRcoSetW
namespace Go.Proofs.Ytbnekkcjkdghcaa
open Go.RowKit Go.Maps

/-- The negative, within 64 bits. -/
def negW (b : Int) : Int := if b = -9223372036854775808 then b else -b
set_option maxRecDepth 100000 in
theorem negW_wrap {b : Int} (h : FitsZ b) : IntKind.i64.wrap (-b) = negW b := by
  unfold negW FitsZ at *
  rw [IntKind.wrap_i64]
  split <;> omega
set_option maxRecDepth 100000 in
theorem negW_fits {b : Int} (h : FitsZ b) : FitsZ (negW b) := by unfold negW FitsZ at *; split <;> omega
/-- A count by so much more, or less, so many times. -/
def movOf (c b t : Int) : Int × Bool :=
  if 0 ≤ b then (bif (mulOf b t).2 then addOf c (mulOf b t).1 else (0, false))
  else (bif (mulOf (negW b) t).2 then (if (mulOf (negW b) t).1 ≤ c then (c - (mulOf (negW b) t).1, true) else (0, false)) else (0, false))
set_option maxRecDepth 100000 in
theorem mov_in {c b t : Int} (hc : 0 ≤ c ∧ c ≤ 9223372036854775807) : 0 ≤ (movOf c b t).1 ∧ (movOf c b t).1 ≤ 9223372036854775807 := by
  have h1 := mulOf_in (negW b) t
  unfold movOf
  split
  · cases (mulOf b t).2
    · exact ⟨by simp, by simp⟩
    · exact addOf_in _ _
  · cases (mulOf (negW b) t).2
    · exact ⟨by simp, by simp⟩
    · simp only [cond_true]
      split
      · exact ⟨by simp only; omega, by simp only; omega⟩
      · exact ⟨by simp, by simp⟩
/-- Add, as plain lists: what is there behind it, and the error's number. -/
def addC (L : Cn) (p : Int × Int) (b t : Int) : Cn × Int :=
  if t < 0 then (L, 1) else bif (movOf (getC L p) b t).2 then (setC L p (movOf (getC L p) b t).1, 0) else (L, 5)
structure GoodC (L : Cn) : Prop where
  ris : RisC L
  fits : ∀ x ∈ L, FitsPr x.1 ∧ 0 < x.2 ∧ x.2 ≤ 9223372036854775807
set_option maxRecDepth 100000 in
theorem GoodC.nil : GoodC [] := ⟨List.Pairwise.nil, fun x hx => by simp at hx⟩
set_option maxRecDepth 100000 in
theorem GoodC.get {L : Cn} (h : GoodC L) (p : Int × Int) : 0 ≤ getC L p ∧ getC L p ≤ 9223372036854775807 := by
  cases e : inC L p with
  | true =>
    have := (h.fits _ (get_in e)).2
    simp only at this
    omega
  | false => rw [get_out e]; omega
set_option maxRecDepth 100000 in
theorem GoodC.set {L : Cn} (h : GoodC L) {p : Int × Int} (hp : FitsPr p) {n : Int} (hn : 0 ≤ n ∧ n ≤ 9223372036854775807) : GoodC (setC L p n) := by
  refine ⟨ris_set h.ris p n, fun x hx => ?_⟩
  rcases set_mem.1 hx with ⟨h0, rfl⟩ | ⟨hx, _⟩
  · exact ⟨hp, by simp only; omega, hn.2⟩
  · exact h.fits x hx
set_option maxRecDepth 100000 in
theorem GoodC.add {L : Cn} (h : GoodC L) {p : Int × Int} (hp : FitsPr p) (b t : Int) : GoodC (addC L p b t).1 := by
  have hm := mov_in (c := getC L p) (b := b) (t := t) (h.get p)
  unfold addC
  split
  · exact h
  · cases (movOf (getC L p) b t).2
    · exact h
    · exact h.set hp hm
set_option maxRecDepth 100000 in
theorem addC_len {L : Cn} (h : RisC L) (p : Int × Int) (b t : Int) : (addC L p b t).1.length ≤ L.length + 1 := by
  unfold addC
  split
  · simp
  · cases (movOf (getC L p) b t).2
    · simp
    · exact set_len h p _
set_option maxRecDepth 100000 in
theorem addC_err (L : Cn) (p : Int × Int) (b t : Int) : (addC L p b t).2 = 0 ∨ (addC L p b t).1 = L := by
  unfold addC
  split
  · exact .inr rfl
  · cases (movOf (getC L p) b t).2
    · exact .inr rfl
    · exact .inl rfl
set_option maxRecDepth 100000 in
theorem RSRet.from {base K o : Nat} {cs : Array Value} {ty : TypeId} {v u : Value} {L : Cn} {w w1 w2 : World} (hb : Below w.heap.size w w1) (h : RSRet base K o cs ty v u L w1 w2) : RSRet base K o cs ty v u L w w2 := by
  obtain ⟨v', u', hr, hk, ho⟩ := h
  exact ⟨v', u', hr, (Kept.of_below (S := fun k => k = K) hb (Nat.le_refl _)).trans hk fun _ _ h => h, fun k h1 h2 => ho k h1 (Nat.lt_of_lt_of_le h2 hb.size)⟩
set_option maxRecDepth 100000 in
theorem set_same {cs : Array Value} {o : Nat} {v : Value} (h : cs[o]? = some v) : cs.setIfInBounds o v = cs := by
  obtain ⟨h1, h2⟩ := Array.getElem?_eq_some_iff.1 h
  apply Array.ext_getElem?
  intro i
  by_cases e : o = i
  · subst e; rw [Array.getElem?_setIfInBounds_self_of_lt h1, h]
  · rw [Array.getElem?_setIfInBounds_ne e]
set_option maxRecDepth 100000 in
theorem RSRet.of_below {base K o : Nat} {cs : Array Value} {ty : TypeId} {v u : Value} {L : Cn} {w w' : World} (h : Rco w base K o cs ty v u L) (hb : Below w.heap.size w w') : RSRet base K o cs ty v u L w w' :=
  ⟨v, u, by rw [set_same h.c0, set_same h.c1]; exact h.below hb, Kept.of_below hb (Nat.le_refl _), fun _ h1 _ => h1⟩
set_option maxRecDepth 100000 in
set_option maxHeartbeats 4000000 in
theorem dradd_any (base K o : Nat) (cs : Array Value) (ty : TypeId) (v u : Value) (L : Cn) (p q b t : Int) (w : World) (h : Rco w base K o cs ty v u L) (hg : GoodC L) (hb : FitsZ b) (ht : FitsZ t) (hl : L.length ≤ 1000) :
    Calls Try.prog 12 #[.pointer (some ⟨K, o, none⟩), .agg #[.int .i64 p, .int .i64 q], .int .i64 b, .int .i64 t] w fun e w' => e = .returned (.int .i64 (addC L (p, q) b t).2) ∧ RSRet base K o cs ty v u (addC L (p, q) b t).1 w w' := by
  unfold addC
  by_cases h0 : t < 0
  · rw [if_pos h0]
    have HR : Hid (RSRet base K o cs ty v u L w (w.alloc (.cells #[.int .i64 p, .int .i64 q] 41))) := Lib.hid (RSRet.of_below h ((Below.refl _ w).alloc (Nat.le_refl _) _))
    clear h hg
    go_enter Try.func12, Try.ntmps12
    go_wp2
    go_ret
    exact ⟨rfl, HR.out⟩
  · rw [if_neg h0]
    obtain ⟨w1, hw1⟩ : ∃ w1, w1 = w.alloc (.cells #[.int .i64 p, .int .i64 q] 41) := ⟨_, rfl⟩
    have h1 : Rco w1 base K o cs ty v u L := by rw [hw1]; exact h.alloc _
    have HB : Hid (Below w.heap.size w w1) := Lib.hid (by rw [hw1]; exact (Below.refl _ w).alloc (Nat.le_refl _) _)
    have b0 : w1.cell? ⟨w.heap.size, 0, none⟩ = some (.int .i64 p) := by rw [hw1]; simp
    have b1 : w1.cell? ⟨w.heap.size, 1, none⟩ = some (.int .i64 q) := by rw [hw1]; simp
    have hlt : w.heap.size < w1.heap.size := by rw [hw1]; simp
    have hgc := hg.get (p, q)
    have cG := rget_any base K o cs ty v u L p q w1 h1 (by omega)
    have HS : Hid (∀ W n, Below w1.heap.size w1 W → Calls Try.prog 33 #[.pointer (some ⟨K, o, none⟩), .agg #[.int .i64 p, .int .i64 q], .int .i64 n] W fun e w' => e = .returned (.tuple #[]) ∧ RSRet base K o cs ty v u (setC L (p, q) n) W w') := Lib.hid (fun W n hW => rset_any base K o cs ty v u L p q n W (h1.below hW) hl)
    have HR : Hid (Rco w1 base K o cs ty v u L) := Lib.hid h1
    have hw' := hw1.symm
    unfold movOf
    generalize getC L (p, q) = c at *
    clear h h1 hw1 hg
    by_cases hbp : 0 ≤ b
    · rw [if_pos hbp]
      have cM := fun w => refMul_any b t w hb.1 hb.2 ht.1 ht.2
      have hin := mulOf_in b t
      generalize mulOf b t = s at *
      obtain ⟨d, ok⟩ := s
      simp only at hin cM
      cases ok with
      | false =>
        simp only [cond_false]
        clear hin
        go_enter Try.func12, Try.ntmps12
        go_wp2_with fail
        refine cG.mono ?_
        rintro e w2 ⟨rfl, n2, hw2⟩
        have HB2 : Hid (Below w1.heap.size w1 w2) := Lib.hid (by rw [hw2]; exact below_drewN' ((Below.refl _ w1).alloc (Nat.le_refl _) _) _)
        clear hw2
        go_wp2_with (go_at_call 31; refine (cM _).mono ?_; rintro e w3 ⟨rfl, rfl⟩)
        go_ret
        exact ⟨rfl, RSRet.from HB.out (RSRet.of_below HR.out HB2.out)⟩
      | true =>
        simp only [cond_true]
        have cA := fun w => refAdd_any c d w (by omega) hgc.2 (by omega) hin.2
        generalize addOf c d = y at *
        obtain ⟨y1, y2⟩ := y
        simp only at cA ⊢
        cases y2 with
        | false =>
          simp only [cond_false]
          go_enter Try.func12, Try.ntmps12
          go_wp2_with fail
          refine cG.mono ?_
          rintro e w2 ⟨rfl, n2, hw2⟩
          have HB2 : Hid (Below w1.heap.size w1 w2) := Lib.hid (by rw [hw2]; exact below_drewN' ((Below.refl _ w1).alloc (Nat.le_refl _) _) _)
          clear hw2
          go_wp2_with (first | (go_at_call 31; refine (cM _).mono ?_; rintro e w3 ⟨rfl, rfl⟩) | (go_at_call 32; refine (cA _).mono ?_; rintro e w3 ⟨rfl, rfl⟩))
          go_ret
          exact ⟨rfl, RSRet.from HB.out (RSRet.of_below HR.out HB2.out)⟩
        | true =>
          simp only [cond_true]
          go_enter Try.func12, Try.ntmps12
          go_wp2_with fail
          refine cG.mono ?_
          rintro e w2 ⟨rfl, n2, hw2⟩
          have HB2 : Hid (Below w1.heap.size w1 w2) := Lib.hid (by rw [hw2]; exact below_drewN' ((Below.refl _ w1).alloc (Nat.le_refl _) _) _)
          have e0 : w2.cell? ⟨w.heap.size, 0, none⟩ = some (.int .i64 p) := (HB2.out.cell hlt).trans b0
          have e1 : w2.cell? ⟨w.heap.size, 1, none⟩ = some (.int .i64 q) := (HB2.out.cell hlt).trans b1
          have cS := HS.out w2 y1 HB2.out
          clear hw2
          go_wp2_with (first | (go_at_call 31; refine (cM _).mono ?_; rintro e w3 ⟨rfl, rfl⟩) | (go_at_call 32; refine (cA _).mono ?_; rintro e w3 ⟨rfl, rfl⟩) | (go_at_call 33; refine cS.mono ?_; rintro e w4 ⟨rfl, hr4⟩; have HR4 := Lib.hid hr4; clear hr4))
          go_ret
          exact ⟨rfl, RSRet.from HB.out (RSRet.from HB2.out HR4.out)⟩
    · rw [if_neg hbp]
      have hw := negW_wrap hb
      have hn := negW_fits hb
      have cM := fun w => refMul_any (negW b) t w hn.1 hn.2 ht.1 ht.2
      have hin := mulOf_in (negW b) t
      generalize negW b = nb at *
      generalize mulOf nb t = s at *
      obtain ⟨d, ok⟩ := s
      simp only at hin cM
      cases ok with
      | false =>
        simp only [cond_false]
        clear hin
        go_enter Try.func12, Try.ntmps12
        go_wp2_with fail
        refine cG.mono ?_
        rintro e w2 ⟨rfl, n2, hw2⟩
        have HB2 : Hid (Below w1.heap.size w1 w2) := Lib.hid (by rw [hw2]; exact below_drewN' ((Below.refl _ w1).alloc (Nat.le_refl _) _) _)
        clear hw2
        go_wp2_with (go_at_call 31; refine (cM _).mono ?_; rintro e w3 ⟨rfl, rfl⟩)
        go_ret
        exact ⟨rfl, RSRet.from HB.out (RSRet.of_below HR.out HB2.out)⟩
      | true =>
        simp only [cond_true]
        by_cases hd : d ≤ c
        · rw [if_pos hd]
          simp only [cond_true]
          have hd' : ¬ c < d := by omega
          go_enter Try.func12, Try.ntmps12
          go_wp2_with fail
          refine cG.mono ?_
          rintro e w2 ⟨rfl, n2, hw2⟩
          have HB2 : Hid (Below w1.heap.size w1 w2) := Lib.hid (by rw [hw2]; exact below_drewN' ((Below.refl _ w1).alloc (Nat.le_refl _) _) _)
          have e0 : w2.cell? ⟨w.heap.size, 0, none⟩ = some (.int .i64 p) := (HB2.out.cell hlt).trans b0
          have e1 : w2.cell? ⟨w.heap.size, 1, none⟩ = some (.int .i64 q) := (HB2.out.cell hlt).trans b1
          have cS := HS.out w2 (c - d) HB2.out
          clear hw2
          go_wp2_with (first | (go_at_call 31; refine (cM _).mono ?_; rintro e w3 ⟨rfl, rfl⟩) | (go_at_call 33; refine cS.mono ?_; rintro e w4 ⟨rfl, hr4⟩; have HR4 := Lib.hid hr4; clear hr4))
          go_ret
          exact ⟨rfl, RSRet.from HB.out (RSRet.from HB2.out HR4.out)⟩
        · rw [if_neg hd]
          simp only [cond_false]
          have hd' : c < d := by omega
          go_enter Try.func12, Try.ntmps12
          go_wp2_with fail
          refine cG.mono ?_
          rintro e w2 ⟨rfl, n2, hw2⟩
          have HB2 : Hid (Below w1.heap.size w1 w2) := Lib.hid (by rw [hw2]; exact below_drewN' ((Below.refl _ w1).alloc (Nat.le_refl _) _) _)
          clear hw2
          go_wp2_with (go_at_call 31; refine (cM _).mono ?_; rintro e w3 ⟨rfl, rfl⟩)
          go_ret
          exact ⟨rfl, RSRet.from HB.out (RSRet.of_below HR.out HB2.out)⟩
end Go.Proofs.Ytbnekkcjkdghcaa
