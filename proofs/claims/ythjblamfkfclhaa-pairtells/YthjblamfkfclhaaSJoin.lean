/- Join of a table of symbols. -/
import Derived.Test.YthjblamfkfclhaaSAdd
namespace Go.Proofs.Ythjblamfkfclhaa
open Go.RowKit Go.Maps

theorem join_nil (a c : Int) (w : World) : Calls Try.prog 18 #[.pointer none, .int .i64 a, .int .i64 c] w fun e w' => e = .returned (.tuple #[.int .i64 0, .int .i64 1]) ∧ w' = w := by
  have cT := text_nil
  unfold noText at cT
  go_enter Try.func18, Try.ntmps18
  go_wp2_with fail
  refine (cT _ _).mono ?_
  rintro e w1 ⟨rfl, rfl⟩
  go_wp2_with fail
  refine (cT _ _).mono ?_
  rintro e w2 ⟨rfl, rfl⟩
  go_wp2
  go_ret2
  exact ⟨rfl, rfl⟩
set_option maxHeartbeats 2000000 in
theorem sjoin_any (K : Nat) (v : Value) (b : Option Nat) (J : List Joint) (a c : Int) (w : World) (h : Stab w K v b J) (hJ : J.length ≤ 900000) (a0 : -9223372036854775808 ≤ a) (a1 : a ≤ 9223372036854775807) (c0 : -9223372036854775808 ≤ c) (c1 : c ≤ 9223372036854775807) :
    Calls Try.prog 18 #[.pointer (some ⟨K, 0, none⟩), .int .i64 a, .int .i64 c] w fun e w' => e = .returned (.tuple #[.int .i64 (joinOf J a c).1.1, .int .i64 (joinOf J a c).1.2]) ∧ JoinRet K v b (joinOf J a c).2 w w' := by
  have H := Lib.hid h
  have HG := Lib.hid h.good
  have cA := text_any K v b J a w h (by omega) a0 a1
  have cC := fun w1 (hb : Below w.heap.size w w1) => text_any K v b J c w1 (h.below hb) (by omega) c0 c1
  have sA := txt_le h.good a
  have sC := txt_le h.good c
  clear h
  cases h1 : (thereOf J a && thereOf J c) with
  | false =>
    rw [join_arg h1]
    generalize txtOf J a = x at *
    generalize txtOf J c = y at *
    generalize thereOf J a = ta at *
    generalize thereOf J c = tc at *
    go_enter Try.func18, Try.ntmps18
    go_wp2_with fail
    refine cA.mono ?_
    rintro e w1 ⟨rfl, hb1⟩
    have cC := cC w1 hb1
    have HB1 := Lib.hid hb1
    clear hb1
    go_wp2_with fail
    refine cC.mono ?_
    rintro e w2 ⟨rfl, hb2⟩
    have HB2 := Lib.hid (HB1.out.trans (hb2.mono HB1.out.size))
    clear hb2 cA cC
    cases ta with
    | false =>
      go_wp2
      go_ret2
      exact ⟨rfl, JoinRet.below H.out HB2.out⟩
    | true =>
      have : tc = false := by simpa using h1
      subst this
      go_wp2
      go_ret2
      exact ⟨rfl, JoinRet.below H.out HB2.out⟩
  | true =>
    obtain ⟨ha, hc⟩ := Bool.and_eq_true_iff.1 h1
    have hgood := good_join HG.out a c
    have HF0 : Hid (thereOf J a = true ∧ thereOf J c = true) := Lib.hid ⟨ha, hc⟩
    rw [ha] at cA
    rw [hc] at cC
    by_cases hl : 65536 < (txtOf J a).size + (txtOf J c).size
    · rw [join_long h1 hl]
      clear hgood
      generalize txtOf J a = x at *
      generalize txtOf J c = y at *
      have hlI : (65536 : Int) < (x.size : Int) + (y.size : Int) := by omega
      clear ha hc h1
      go_enter Try.func18, Try.ntmps18
      go_wp2_with fail
      refine cA.mono ?_
      rintro e w1 ⟨rfl, hb1⟩
      have cC := cC w1 hb1
      have HB1 := Lib.hid hb1
      clear hb1
      go_wp2_with fail
      refine cC.mono ?_
      rintro e w2 ⟨rfl, hb2⟩
      have HB2 := Lib.hid (HB1.out.trans (hb2.mono HB1.out.size))
      clear hb2 cA cC
      go_wp2
      go_ret2
      exact ⟨rfl, JoinRet.below H.out HB2.out⟩
    · have cF := fun w1 (hb : Below w.heap.size w w1) => sfind_any K v b J (txtOf J a ++ txtOf J c) w1 (H.out.below hb) (by rw [size_app]; omega)
      cases hf : (findOf J (txtOf J a ++ txtOf J c)).2 with
      | true =>
        rw [join_repeat h1 hl hf]
        rw [hf] at cF
        clear hgood hf
        generalize (findOf J (txtOf J a ++ txtOf J c)).1 = z at *
        generalize txtOf J a = x at *
        generalize txtOf J c = y at *
        have hlI : ¬ (65536 : Int) < (x.size : Int) + (y.size : Int) := by omega
        have hlN : ¬ 9223372036854775807 < x.size + y.size := by omega
        clear ha hc h1
        go_enter Try.func18, Try.ntmps18
        go_wp2_with fail
        refine cA.mono ?_
        rintro e w1 ⟨rfl, hb1⟩
        have cC := cC w1 hb1
        have HB1 := Lib.hid hb1
        clear hb1
        go_wp2_with fail
        refine cC.mono ?_
        rintro e w2 ⟨rfl, hb2⟩
        have HB2 := Lib.hid (HB1.out.trans (hb2.mono HB1.out.size))
        clear hb2 cA cC
        go_wp2_with fail
        refine (cF _ HB2.out).mono ?_
        rintro e w3 ⟨rfl, rfl⟩
        go_wp2
        go_ret2
        exact ⟨rfl, JoinRet.below H.out HB2.out⟩
      | false =>
        rw [join_new h1 hl hf] at hgood ⊢
        rw [hf] at cF
        have cS := fun w1 (hb : Below w.heap.size w w1) => sadd_any K v b J (txtOf J a ++ txtOf J c) a c w1 (H.out.below hb) hJ (by rw [size_app]; omega) (not_found hf) hgood
        clear hgood hf
        unfold jointV at cS
        generalize (findOf J (txtOf J a ++ txtOf J c)).1 = z at *
        generalize txtOf J a = x at *
        generalize txtOf J c = y at *
        have hlI : ¬ (65536 : Int) < (x.size : Int) + (y.size : Int) := by omega
        have hlN : ¬ 9223372036854775807 < x.size + y.size := by omega
        clear ha hc h1
        go_enter Try.func18, Try.ntmps18
        go_wp2_with fail
        refine cA.mono ?_
        rintro e w1 ⟨rfl, hb1⟩
        have cC := cC w1 hb1
        have HB1 := Lib.hid hb1
        clear hb1
        go_wp2_with fail
        refine cC.mono ?_
        rintro e w2 ⟨rfl, hb2⟩
        have HB2 := Lib.hid (HB1.out.trans (hb2.mono HB1.out.size))
        clear hb2 cA cC
        go_wp2_with fail
        refine (cF _ HB2.out).mono ?_
        rintro e w3 ⟨rfl, rfl⟩
        go_wp2_with fail
        refine (cS _ HB2.out).mono ?_
        rintro e w4 ⟨rfl, hr⟩
        have HR := Lib.hid (JoinRet.after HB2.out hr)
        clear hr
        go_wp2
        go_ret2
        exact ⟨rfl, HR.out⟩
end Go.Proofs.Ythjblamfkfclhaa
