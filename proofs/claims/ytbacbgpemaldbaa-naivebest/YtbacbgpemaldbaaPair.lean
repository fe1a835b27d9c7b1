/- Add and Mul of layer 6, and the document's own. -/
import Derived.Test.YtbacbgpemaldbaaRows
import Derived.Test.YtbacbgpemaldbaaNums
import Derived.Test.YtbacbgpemaldbaaMem
namespace Go.Proofs.Ytbacbgpemaldbaa
open Go.RowKit

set_option maxRecDepth 100000 in
theorem within_any (n : Int) (w : World) : Calls Try.prog 40 #[.int .i64 n] w fun e w' => e = .returned (.bool (decide (0 ≤ n))) ∧ w' = w := by
  go_enter Try.func40, Try.ntmps40
  go_wp2
  go_ret
  exact ⟨rfl, rfl⟩
set_option maxRecDepth 100000 in
theorem add_any (a b : Int) (w : World) (a0 : -9223372036854775808 ≤ a) (a1 : a ≤ 9223372036854775807) (b0 : -9223372036854775808 ≤ b) (b1 : b ≤ 9223372036854775807) :
    Calls Try.prog 38 #[.int .i64 a, .int .i64 b] w fun e w' => e = .returned (.tuple #[.int .i64 (addOf a b).1, .bool (addOf a b).2]) ∧ w' = w := by
  by_cases ha : 0 ≤ a
  · by_cases hb : 0 ≤ b
    · by_cases h : a + b ≤ 9223372036854775807
      · rw [addOf_yes ha hb h]
        have h' : ¬ (9223372036854775807 - b < a) := by omega
        go_enter Try.func38, Try.ntmps38
        go_wp2_with (go_at_call 40; refine (within_any _ _).mono ?_; rintro e w1 ⟨rfl, rfl⟩)
        go_ret2
        exact ⟨rfl, rfl⟩
      · rw [addOf_no fun k => h k.2.2]
        have h' : 9223372036854775807 - b < a := by omega
        go_enter Try.func38, Try.ntmps38
        go_wp2_with (go_at_call 40; refine (within_any _ _).mono ?_; rintro e w1 ⟨rfl, rfl⟩)
        go_ret2
        exact ⟨rfl, rfl⟩
    · rw [addOf_no fun k => hb k.2.1]
      go_enter Try.func38, Try.ntmps38
      go_wp2_with (go_at_call 40; refine (within_any _ _).mono ?_; rintro e w1 ⟨rfl, rfl⟩)
      go_ret2
      exact ⟨rfl, rfl⟩
  · rw [addOf_no fun k => ha k.1]
    go_enter Try.func38, Try.ntmps38
    go_wp2_with (go_at_call 40; refine (within_any _ _).mono ?_; rintro e w1 ⟨rfl, rfl⟩)
    go_ret2
    exact ⟨rfl, rfl⟩
set_option maxRecDepth 100000 in
theorem refAdd_any (a b : Int) (w : World) (a0 : -9223372036854775808 ≤ a) (a1 : a ≤ 9223372036854775807) (b0 : -9223372036854775808 ≤ b) (b1 : b ≤ 9223372036854775807) :
    Calls Try.prog 35 #[.int .i64 a, .int .i64 b] w fun e w' => e = .returned (.tuple #[.int .i64 (addOf a b).1, .bool (addOf a b).2]) ∧ w' = w := by
  by_cases ha : a < 0
  · rw [addOf_no fun k => by omega]
    go_enter Try.func35, Try.ntmps35
    go_wp2
    go_ret2
    exact ⟨rfl, rfl⟩
  · by_cases hb : b < 0
    · rw [addOf_no fun k => by omega]
      go_enter Try.func35, Try.ntmps35
      go_wp2
      go_ret2
      exact ⟨rfl, rfl⟩
    · by_cases h : a + b ≤ 9223372036854775807
      · rw [addOf_yes (by omega) (by omega) h]
        have h' : ¬ a + b < 0 := by omega
        go_enter Try.func35, Try.ntmps35
        go_wp2
        go_ret2
        exact ⟨rfl, rfl⟩
      · rw [addOf_no fun k => h k.2.2]
        have hw : IntKind.i64.wrap (a + b) = a + b - 18446744073709551616 := by rw [IntKind.wrap_i64]; omega
        have h' : a + b - 18446744073709551616 < 0 := by omega
        go_enter Try.func35, Try.ntmps35
        go_wp2
        go_ret2
        exact ⟨rfl, rfl⟩
set_option maxRecDepth 100000 in
theorem div_in {a b : Int} (hb : 0 < b) : 9223372036854775807 / b < a ↔ 9223372036854775807 < a * b := by
  rw [Int.ediv_lt_iff_lt_mul hb]
set_option maxRecDepth 100000 in
theorem refMul_any (a b : Int) (w : World) (a0 : -9223372036854775808 ≤ a) (a1 : a ≤ 9223372036854775807) (b0 : -9223372036854775808 ≤ b) (b1 : b ≤ 9223372036854775807) :
    Calls Try.prog 34 #[.int .i64 a, .int .i64 b] w fun e w' => e = .returned (.tuple #[.int .i64 (mulOf a b).1, .bool (mulOf a b).2]) ∧ w' = w := by
  by_cases ha : a < 0
  · rw [mulOf_no fun k => by omega]
    go_enter Try.func34, Try.ntmps34
    go_wp2
    go_ret2
    exact ⟨rfl, rfl⟩
  · by_cases hb : b < 0
    · rw [mulOf_no fun k => by omega]
      go_enter Try.func34, Try.ntmps34
      go_wp2
      go_ret2
      exact ⟨rfl, rfl⟩
    · by_cases hz : 0 < b
      · have hd := div_in (a := a) hz
        have hne : b ≠ 0 := by omega
        by_cases h : a * b ≤ 9223372036854775807
        · rw [mulOf_yes (by omega) (by omega) h]
          have h' : ¬ (9223372036854775807 / b < a) := by omega
          have hm : IntKind.i64.wrap (a * b) = a * b := by rw [IntKind.wrap_i64]; have := Int.mul_nonneg (a := a) (b := b) (by omega) (by omega); omega
          clear hd
          go_enter Try.func34, Try.ntmps34
          go_wp2
          go_ret2
          exact ⟨rfl, rfl⟩
        · rw [mulOf_no fun k => h k.2.2]
          have h' : 9223372036854775807 / b < a := by omega
          clear hd
          go_enter Try.func34, Try.ntmps34
          go_wp2
          go_ret2
          exact ⟨rfl, rfl⟩
      · obtain rfl : b = 0 := by omega
        rw [mulOf_yes (by omega) (by omega) (by omega)]
        go_enter Try.func34, Try.ntmps34
        go_wp2
        go_ret2
        exact ⟨rfl, rfl⟩
end Go.Proofs.Ytbacbgpemaldbaa
