/- The document's example of layer 6, and the walk of CheckedTells. -/
import Derived.Test.YtcjefnbnihbncaaMul
namespace Go.Proofs.Ytcjefnbnihbncaa
open Go.RowKit

theorem awake_any (w : World) : Calls Try.prog 6 #[] w fun e w' => e = .returned (.bool true) ∧ w' = w := by
  have e1 : addOf 4611686018427387904 4611686018427387904 = (0, false) := by decide
  have e2 : addOf 2 3 = (5, true) := by decide
  go_enter Try.func6, Try.ntmps6
  go_wp2_with fail
  refine (add_any _ _ _ (by decide) (by decide) (by decide) (by decide)).mono ?_
  rintro e w1 ⟨rfl, rfl⟩
  rw [e1]
  go_wp2_with fail
  refine (add_any _ _ _ (by decide) (by decide) (by decide) (by decide)).mono ?_
  rintro e w1 ⟨rfl, rfl⟩
  rw [e2]
  go_wp2
  go_ret
  exact ⟨rfl, rfl⟩
theorem checkedTells_walk (a b : Int) (w : World) (a0 : -9223372036854775808 ≤ a) (a1 : a ≤ 9223372036854775807) (b0 : -9223372036854775808 ≤ b) (b1 : b ≤ 9223372036854775807) :
    Calls Try.prog 3 #[.int .i64 a, .int .i64 b] w fun e w' => e = .returned (.bool true) ∧ Below w.heap.size w w' := by
  have cA := fun w => add_any a b w a0 a1 b0 b1
  have cR := fun w => refAdd_any a b w a0 a1 b0 b1
  have cM := fun w => mul_any a b w a0 a1 b0 b1
  have cN := fun w => refMul_any a b w a0 a1 b0 b1
  generalize addOf a b = s at cA cR
  generalize mulOf a b = p at cM cN
  obtain ⟨s1, s2⟩ := s
  obtain ⟨p1, p2⟩ := p
  go_enter Try.func3, Try.ntmps3
  go_wp2_with (first | (go_at_call 6; refine (awake_any _).mono ?_; rintro e w1 ⟨rfl, rfl⟩) | (go_at_call 7; refine (cA _).mono ?_; rintro e w1 ⟨rfl, rfl⟩) | (go_at_call 8; refine (cR _).mono ?_; rintro e w1 ⟨rfl, rfl⟩) | (go_at_call 9; refine (cM _).mono ?_; rintro e w1 ⟨rfl, rfl⟩) | (go_at_call 10; refine (cN _).mono ?_; rintro e w1 ⟨rfl, rfl⟩))
  go_ret
  exact ⟨rfl, Below.refl _ _⟩
end Go.Proofs.Ytcjefnbnihbncaa
