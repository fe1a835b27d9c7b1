/- Add of a count. -/
import Derived.Test.YtejcemmhhpbchaaGreatCtsV
import Derived.Deep.RegionHeld3
namespace Go.Proofs.YtejcemmhhpbchaaGreat
open Go.RowKit Go.Maps

/-- Add, as plain lists: what is there behind it, and the error's number. -/
def addC (L : Cn) (p : Int × Int) (b t : Int) : Cn × Int :=
  if t < 0 then (L, 1) else bif (movOf (getC L p) b t).2 then (setC L p (movOf (getC L p) b t).1, 0) else (L, 5)
structure GoodC (L : Cn) : Prop where
  ris : RisC L
  fits : ∀ x ∈ L, FitsPr x.1 ∧ 0 < x.2 ∧ x.2 ≤ 9223372036854775807
set_option maxRecDepth 100000 in
theorem GoodC.nil : GoodC [] := ⟨List.Pairwise.nil, fun x hx => by simp at hx⟩
set_option maxRecDepth 100000 in
theorem GoodC.get {L : Cn} (h : GoodC L) (p : Int × Int) : 0 ≤ getC L p ∧ getC L p ≤ 9223372036854775807 := by
  cases e : inC L p with
  | true =>
    have := (h.fits _ (get_in e)).2
    simp only at this
    omega
  | false => rw [get_out e]; omega
set_option maxRecDepth 100000 in
theorem GoodC.set {L : Cn} (h : GoodC L) {p : Int × Int} (hp : FitsPr p) {n : Int} (hn : 0 ≤ n ∧ n ≤ 9223372036854775807) : GoodC (setC L p n) := by
  refine ⟨ris_set h.ris p n, fun x hx => ?_⟩
  rcases set_mem.1 hx with ⟨h0, rfl⟩ | ⟨hx, _⟩
  · exact ⟨hp, by simp only; omega, hn.2⟩
  · exact h.fits x hx
set_option maxRecDepth 100000 in
theorem GoodC.add {L : Cn} (h : GoodC L) {p : Int × Int} (hp : FitsPr p) (b t : Int) : GoodC (addC L p b t).1 := by
  have hm := mov_in (c := getC L p) (b := b) (t := t) (h.get p)
  unfold addC
  split
  · exact h
  · cases (movOf (getC L p) b t).2
    · exact h
    · exact h.set hp hm
set_option maxRecDepth 100000 in
theorem addC_len {L : Cn} (h : RisC L) (p : Int × Int) (b t : Int) : (addC L p b t).1.length ≤ L.length + 1 := by
  unfold addC
  split
  · simp
  · cases (movOf (getC L p) b t).2
    · simp
    · exact set_len h p _
set_option maxRecDepth 100000 in
theorem addC_err (L : Cn) (p : Int × Int) (b t : Int) : (addC L p b t).2 = 0 ∨ (addC L p b t).1 = L := by
  unfold addC
  split
  · exact .inr rfl
  · cases (movOf (getC L p) b t).2
    · exact .inr rfl
    · exact .inl rfl
set_option maxRecDepth 100000 in
set_option maxHeartbeats 2000000 in
theorem dcadd_any (K : Nat) (m : Option Nat) (L : Cn) (p q b t : Int) (w : World) (h : Cts w K m L) (hg : GoodC L) (hp : FitsPr (p, q)) (hb : FitsZ b) (ht : FitsZ t) (hl : L.length ≤ 1048576) :
    Calls Tryz.prog 64 #[.pointer (some ⟨K, 0, none⟩), .agg #[.int .i64 p, .int .i64 q], .int .i64 b, .int .i64 t] w fun e w' => e = .returned (.int .i64 (addC L (p, q) b t).2) ∧ CRet K m (addC L (p, q) b t).1 w w' := by
  unfold addC
  by_cases h0 : t < 0
  · rw [if_pos h0]
    have HR : Hid (CRet K m L w (w.alloc (.cells #[.int .i64 p, .int .i64 q] 37))) := Lib.hid (CRet.of_below h ((Below.refl _ w).alloc (Nat.le_refl _) _))
    clear h hg
    go_enter Tryz.func64, Tryz.ntmps64
    go_wp2
    go_ret
    exact ⟨rfl, HR.out⟩
  · rw [if_neg h0]
    obtain ⟨w1, hw1⟩ : ∃ w1, w1 = (w.alloc (.cells #[.int .i64 p, .int .i64 q] 37)).drew := ⟨_, rfl⟩
    have h1 : Cts w1 K m L := by rw [hw1]; exact (h.alloc _).drew
    have HB : Hid (Below w.heap.size w w1) := Lib.hid (by rw [hw1]; exact ((Below.refl _ w).alloc (Nat.le_refl _) _).drew)
    have c0 := h1.cell.1
    have hlk := look_c h1.2 hp
    have b0 : w1.cell? ⟨w.heap.size, 0, none⟩ = some (.int .i64 p) := by rw [hw1]; simp
    have b1 : w1.cell? ⟨w.heap.size, 1, none⟩ = some (.int .i64 q) := by rw [hw1]; simp
    have hgc := hg.get (p, q)
    have cV := moved_any (getC L (p, q)) b t w1 hgc hb ht
    have hmi := mov_in (c := getC L (p, q)) (b := b) (t := t) hgc
    unfold pv at hlk
    simp only at hlk
    have hw' := hw1.symm
    have hcl : ∀ n, FitsZ n → Calls Tryz.prog 80 #[.pointer (some ⟨K, 0, none⟩), .agg #[.int .i64 p, .int .i64 q], .int .i64 n] w1 fun e w' => e = .returned (.tuple #[]) ∧ CRet K m (setC L (p, q) n) w1 w' := fun n hn => dset_any K m L p q n w1 h1 hp hn hl
    have HCL := Lib.hid hcl
    clear hcl
    have HR : Hid (CRet K m L w w1) := Lib.hid (CRet.of_below h HB.out)
    generalize movOf (getC L (p, q)) b t = s at *
    generalize getC L (p, q) = c at *
    obtain ⟨n, ok⟩ := s
    simp only at hmi cV ⊢
    have hnz : FitsZ n := ⟨by omega, hmi.2⟩
    clear h h1 hp hw1 hg hb ht
    cases ok with
    | false =>
      simp only [cond_false]
      go_enter Tryz.func64, Tryz.ntmps64
      go_wp2_with fail
      go_region_with (go_at_call 79; refine cV.mono ?_; rintro e w2 ⟨rfl, rfl⟩)
      all_goals (go_wp2_with fail)
      all_goals go_ret
      all_goals exact ⟨rfl, HR.out⟩
    | true =>
      simp only [cond_true]
      have HS := Lib.hid (HCL.out n hnz)
      go_enter Tryz.func64, Tryz.ntmps64
      go_wp2_with fail
      go_region_with (go_at_call 79; refine cV.mono ?_; rintro e w2 ⟨rfl, rfl⟩)
      all_goals (go_wp2_with fail)
      all_goals refine HS.out.mono ?_
      all_goals rintro e w3 ⟨rfl, hr3⟩
      all_goals have HR3 := Lib.hid hr3
      all_goals clear hr3
      all_goals (go_wp2_with fail)
      all_goals go_ret
      all_goals exact ⟨rfl, CRet.from HB.out HR3.out⟩
set_option maxRecDepth 100000 in
theorem dcadd_nil (p q b t : Int) (w : World) : Calls Tryz.prog 64 #[.pointer none, .agg #[.int .i64 p, .int .i64 q], .int .i64 b, .int .i64 t] w fun e w' => e = .returned (.int .i64 1) ∧ w' = w.alloc (.cells #[.int .i64 p, .int .i64 q] 37) := by
  go_enter Tryz.func64, Tryz.ntmps64
  go_wp2
  go_ret
  exact ⟨rfl, rfl⟩
end Go.Proofs.YtejcemmhhpbchaaGreat
