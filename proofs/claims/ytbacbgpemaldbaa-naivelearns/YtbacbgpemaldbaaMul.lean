/- Mul of layer 6. -/
import Derived.Test.YtbacbgpemaldbaaPair
import Derived.Shelf.Bits.Mul64
namespace Go.Proofs.Ytbacbgpemaldbaa
open Go.RowKit Go.Shelf

/-- The shelf's numbers, as this program has them. -/
def mulRen : Ren := ⟨fun n => if n = 264 then 41 else 0, fun n => if n = 53 then 71 else 74, fun n => n⟩
set_option maxRecDepth 100000 in
theorem mulLays : Lays.n264 Try.prog mulRen where
  mixed := by kernel_rfl
  f264 := by kernel_rfl
  t46 := by kernel_rfl
  a46 := fun w => by kernel_rfl
  z46 := fun w => by kernel_rfl
  v46 := fun w => by kernel_rfl
  t53 := by kernel_rfl
  a53 := fun w => by kernel_rfl
  z53 := fun w => by kernel_rfl
  v53 := fun w => by kernel_rfl
set_option maxRecDepth 100000 in
/-- The two halves of a product. -/
theorem mul64_any (a b : Int) (w : World) (a0 : 0 ≤ a) (a1 : a ≤ 9223372036854775807) (b0 : 0 ≤ b) (b1 : b ≤ 9223372036854775807) :
    Calls Try.prog 41 #[.int .u64 a, .int .u64 b] w fun e w' => ∃ h l : Int, e = .returned (.tuple #[.int .u64 h, .int .u64 l]) ∧ w' = w ∧ 0 ≤ h ∧ 0 ≤ l ∧ l < 18446744073709551616 ∧ a * b = h * 18446744073709551616 + l := by
  obtain ⟨x, rfl⟩ : ∃ x : Nat, a = (x : Int) := ⟨a.toNat, by omega⟩
  obtain ⟨y, rfl⟩ : ∃ y : Nat, b = (y : Int) := ⟨b.toNat, by omega⟩
  refine (Any.bits_Mul64 mulLays x y (by omega) (by omega) w).mono ?_
  rintro e w' ⟨rfl, rfl⟩
  refine ⟨_, _, rfl, rfl, by omega, by omega, by omega, ?_⟩
  rw [← Int.natCast_mul]
  generalize x * y = p
  omega
set_option maxRecDepth 100000 in
theorem mul_any (a b : Int) (w : World) (a0 : -9223372036854775808 ≤ a) (a1 : a ≤ 9223372036854775807) (b0 : -9223372036854775808 ≤ b) (b1 : b ≤ 9223372036854775807) :
    Calls Try.prog 37 #[.int .i64 a, .int .i64 b] w fun e w' => e = .returned (.tuple #[.int .i64 (mulOf a b).1, .bool (mulOf a b).2]) ∧ w' = w := by
  by_cases ha : 0 ≤ a
  · by_cases hb : 0 ≤ b
    · have wa : IntKind.u64.wrap a = a := by rw [IntKind.wrap_u64]; omega
      have wb : IntKind.u64.wrap b = b := by rw [IntKind.wrap_u64]; omega
      by_cases hm : a * b ≤ 9223372036854775807
      · rw [mulOf_yes ha hb hm]
        have hn := Int.mul_nonneg ha hb
        go_enter Try.func37, Try.ntmps37
        go_wp2_with (go_at_call 40; refine (within_any _ _).mono ?_; rintro e w1 ⟨rfl, rfl⟩)
        refine (mul64_any a b _ ha a1 hb b1).mono ?_
        rintro e w1 ⟨h, l, rfl, rfl, h0, l0, l1, he⟩
        rw [he] at hm hn
        obtain rfl : h = 0 := by omega
        have hp : l = a * b := by omega
        have HP := Lib.hid hp
        clear he hp
        have hl2 : ¬ (9223372036854775807 < l) := by omega
        have hwl : IntKind.i64.wrap l = l := by rw [IntKind.wrap_i64]; omega
        go_wp2
        go_ret2
        exact ⟨by rw [← HP.out]; rfl, rfl⟩
      · rw [mulOf_no fun k => hm k.2.2]
        go_enter Try.func37, Try.ntmps37
        go_wp2_with (go_at_call 40; refine (within_any _ _).mono ?_; rintro e w1 ⟨rfl, rfl⟩)
        refine (mul64_any a b _ ha a1 hb b1).mono ?_
        rintro e w1 ⟨h, l, rfl, rfl, h0, l0, l1, he⟩
        rw [he] at hm
        by_cases hz : h = 0
        · subst hz
          have hl2 : 9223372036854775807 < l := by omega
          go_wp2
          go_ret2
          exact ⟨rfl, rfl⟩
        · go_wp2
          go_ret2
          exact ⟨rfl, rfl⟩
    · rw [mulOf_no fun k => hb k.2.1]
      go_enter Try.func37, Try.ntmps37
      have hd : decide (0 ≤ b) = false := by simp; omega
      go_wp2_with (go_at_call 40; refine (within_any _ _).mono ?_; rintro e w1 ⟨rfl, rfl⟩)
      go_ret2
      exact ⟨rfl, rfl⟩
  · rw [mulOf_no fun k => ha k.1]
    go_enter Try.func37, Try.ntmps37
    go_wp2_with (go_at_call 40; refine (within_any _ _).mono ?_; rintro e w1 ⟨rfl, rfl⟩)
    go_ret2
    exact ⟨rfl, rfl⟩
end Go.Proofs.Ytbacbgpemaldbaa
