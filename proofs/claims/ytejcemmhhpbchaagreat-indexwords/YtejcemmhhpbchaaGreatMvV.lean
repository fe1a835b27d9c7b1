/- What becomes of a count. -/
import Derived.Test.YtejcemmhhpbchaaGreatGG
import Derived.Test.YtejcemmhhpbchaaGreatMul
import Derived.Lib.Hide
namespace Go.Proofs.YtejcemmhhpbchaaGreat
open Go.RowKit

/-- The negative, within 64 bits. -/
def negW (b : Int) : Int := if b = -9223372036854775808 then b else -b
set_option maxRecDepth 100000 in
theorem negW_wrap {b : Int} (h : FitsZ b) : IntKind.i64.wrap (-b) = negW b := by
  unfold negW FitsZ at *
  rw [IntKind.wrap_i64]
  split <;> omega
set_option maxRecDepth 100000 in
theorem negW_fits {b : Int} (h : FitsZ b) : FitsZ (negW b) := by unfold negW FitsZ at *; split <;> omega
/-- A count by so much more, or less, so many times. -/
def movOf (c b t : Int) : Int × Bool :=
  if 0 ≤ b then (bif (mulOf b t).2 then addOf c (mulOf b t).1 else (0, false))
  else (bif (mulOf (negW b) t).2 then (if (mulOf (negW b) t).1 ≤ c then (c - (mulOf (negW b) t).1, true) else (0, false)) else (0, false))
set_option maxRecDepth 100000 in
theorem mov_in {c b t : Int} (hc : 0 ≤ c ∧ c ≤ 9223372036854775807) : 0 ≤ (movOf c b t).1 ∧ (movOf c b t).1 ≤ 9223372036854775807 := by
  have h1 := mulOf_in (negW b) t
  unfold movOf
  split
  · cases (mulOf b t).2
    · exact ⟨by simp, by simp⟩
    · exact addOf_in _ _
  · cases (mulOf (negW b) t).2
    · exact ⟨by simp, by simp⟩
    · simp only [cond_true]
      split
      · exact ⟨by simp only; omega, by simp only; omega⟩
      · exact ⟨by simp, by simp⟩
set_option maxRecDepth 100000 in
set_option maxHeartbeats 1000000 in
theorem moved_any (c b t : Int) (w : World) (hc : 0 ≤ c ∧ c ≤ 9223372036854775807) (hb : FitsZ b) (ht : FitsZ t) :
    Calls Tryz.prog 79 #[.int .i64 c, .int .i64 b, .int .i64 t] w fun e w' => e = .returned (.tuple #[.int .i64 (movOf c b t).1, .bool (movOf c b t).2]) ∧ w' = w := by
  unfold movOf
  by_cases h0 : 0 ≤ b
  · rw [if_pos h0]
    have cM := fun w => mul_any b t w hb.1 hb.2 ht.1 ht.2
    have hin := mulOf_in b t
    generalize mulOf b t = s at *
    obtain ⟨d, ok⟩ := s
    simp only at hin cM
    cases ok with
    | false =>
      simp only [cond_false]
      clear hin
      go_enter Tryz.func79, Tryz.ntmps79
      go_wp2_with (go_at_call 70; refine (cM _).mono ?_; rintro e w1 ⟨rfl, rfl⟩)
      go_ret2
      exact ⟨rfl, rfl⟩
    | true =>
      simp only [cond_true]
      have cA := fun w => add_any c d w (by omega) hc.2 (by omega) hin.2
      generalize addOf c d = u at *
      obtain ⟨u1, u2⟩ := u
      simp only at cA
      go_enter Tryz.func79, Tryz.ntmps79
      go_wp2_with (first | (go_at_call 70; refine (cM _).mono ?_; rintro e w1 ⟨rfl, rfl⟩) | (go_at_call 71; refine (cA _).mono ?_; rintro e w1 ⟨rfl, rfl⟩))
      go_ret2
      exact ⟨rfl, rfl⟩
  · rw [if_neg h0]
    have hw := negW_wrap hb
    have hn := negW_fits hb
    have cM := fun w => mul_any (negW b) t w hn.1 hn.2 ht.1 ht.2
    have hin := mulOf_in (negW b) t
    generalize negW b = nb at *
    generalize mulOf nb t = s at *
    obtain ⟨d, ok⟩ := s
    simp only at hin cM
    cases ok with
    | false =>
      simp only [cond_false]
      clear hin
      go_enter Tryz.func79, Tryz.ntmps79
      go_wp2_with (go_at_call 70; refine (cM _).mono ?_; rintro e w1 ⟨rfl, rfl⟩)
      go_ret2
      exact ⟨rfl, rfl⟩
    | true =>
      simp only [cond_true]
      by_cases hd : d ≤ c
      · rw [if_pos hd]
        have hd' : ¬ c < d := by omega
        go_enter Tryz.func79, Tryz.ntmps79
        go_wp2_with (go_at_call 70; refine (cM _).mono ?_; rintro e w1 ⟨rfl, rfl⟩)
        go_ret2
        exact ⟨rfl, rfl⟩
      · rw [if_neg hd]
        have hd' : c < d := by omega
        go_enter Tryz.func79, Tryz.ntmps79
        go_wp2_with (go_at_call 70; refine (cM _).mono ?_; rintro e w1 ⟨rfl, rfl⟩)
        go_ret2
        exact ⟨rfl, rfl⟩
end Go.Proofs.YtejcemmhhpbchaaGreat
