/- The contracts of split.Gap and gluepotref03.Gap. -/
import Derived.Test.YtfajhjppbecjaaaRows
import Derived.Test.YtfajhjppbecjaaaBytes
import Derived.Lib.Hide
namespace Go.Proofs.Ytfajhjppbecjaaa
open Go.RowKit

/-- Is the byte a gap? -/
def gapB (c : UInt8) : Bool := decide (c.toNat = 9 ∨ c.toNat = 10 ∨ c.toNat = 13 ∨ c.toNat = 32)
theorem gap_any (c : UInt8) (w : World) : Calls Try.prog 28 #[.int .u8 (c.toNat : Int)] w fun e w' => e = .returned (.bool (gapB c)) ∧ w = w' := by
  have hx0 : (0 : Int) ≤ (c.toNat : Int) := by omega
  have hx1 : (c.toNat : Int) ≤ 255 := by have := c.toNat_lt; omega
  obtain ⟨x, hx⟩ : ∃ x : Int, x = (c.toNat : Int) := ⟨_, rfl⟩
  have hg : gapB c = decide (x = 9 ∨ x = 10 ∨ x = 13 ∨ x = 32) := by unfold gapB; rw [decide_eq_decide]; omega
  rw [hg, ← hx]; rw [← hx] at hx0 hx1
  clear hg hx
  by_cases h1 : x = 9
  · subst h1
    go_enter Try.func28, Try.ntmps28
    go_wp2
    go_ret
    exact ⟨rfl, rfl⟩
  · by_cases h2 : x = 10
    · subst h2
      go_enter Try.func28, Try.ntmps28
      go_wp2
      go_ret
      exact ⟨rfl, rfl⟩
    · by_cases h3 : x = 13
      · subst h3
        go_enter Try.func28, Try.ntmps28
        go_wp2
        go_ret
        exact ⟨rfl, rfl⟩
      · by_cases h4 : x = 32
        · subst h4
          go_enter Try.func28, Try.ntmps28
          go_wp2
          go_ret
          exact ⟨rfl, rfl⟩
        · have hd : decide (x = 9 ∨ x = 10 ∨ x = 13 ∨ x = 32) = false := decide_eq_false (by omega)
          rw [hd]
          go_enter Try.func28, Try.ntmps28
          go_wp2
          go_ret
          exact ⟨rfl, rfl⟩
theorem refGap_any (c : UInt8) (w : World) : Calls Try.prog 23 #[.int .u8 (c.toNat : Int)] w fun e w' => e = .returned (.bool (gapB c)) ∧ w = w' := by
  have hx0 : (0 : Int) ≤ (c.toNat : Int) := by omega
  have hx1 : (c.toNat : Int) ≤ 255 := by have := c.toNat_lt; omega
  obtain ⟨x, hx⟩ : ∃ x : Int, x = (c.toNat : Int) := ⟨_, rfl⟩
  have hg : gapB c = decide (x = 9 ∨ x = 10 ∨ x = 13 ∨ x = 32) := by unfold gapB; rw [decide_eq_decide]; omega
  rw [hg, ← hx]; rw [← hx] at hx0 hx1
  clear hg hx
  by_cases h1 : x = 9
  · subst h1
    go_enter Try.func23, Try.ntmps23
    go_wp2
    go_ret
    exact ⟨rfl, rfl⟩
  · by_cases h2 : x = 10
    · subst h2
      go_enter Try.func23, Try.ntmps23
      go_wp2
      go_ret
      exact ⟨rfl, rfl⟩
    · by_cases h3 : x = 13
      · subst h3
        go_enter Try.func23, Try.ntmps23
        go_wp2
        go_ret
        exact ⟨rfl, rfl⟩
      · by_cases h4 : x = 32
        · subst h4
          go_enter Try.func23, Try.ntmps23
          go_wp2
          go_ret
          exact ⟨rfl, rfl⟩
        · have hd : decide (x = 9 ∨ x = 10 ∨ x = 13 ∨ x = 32) = false := decide_eq_false (by omega)
          rw [hd]
          go_enter Try.func23, Try.ntmps23
          go_wp2
          go_ret
          exact ⟨retB (by simp [h1, h2, h3, h4]), rfl⟩
end Go.Proofs.Ytfajhjppbecjaaa
