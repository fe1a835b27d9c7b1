/- The contract of gluepotref02.Byte. -/
import Derived.Test.YtkiicmfdhnlgoaaSign
namespace Go.Proofs.Ytkiicmfdhnlgoaa
open Go.RowKit

def byteLeft (i : Value) : Nat := 256 - (intOf i).toNat
theorem byteLeft_lt {k : Nat} (h : (k : Int) < 256) : byteLeft (.int .i64 ((k : Int) + 1)) < byteLeft (.int .i64 (k : Int)) := by
  simp [byteLeft, intOf]; omega

set_option maxHeartbeats 400000 in
theorem refByte_any (r : Int) (w : World) :
    Calls Try.prog 8 #[.int .i64 r] w fun e w' => e = .returned (.tuple #[.int .u8 (by' r), .bool (isSg r)]) ∧ ∃ n, w' = w.drewN n := by
  go_enter Try.func8, Try.ntmps8
  go_wp2
  go_loopw [4] (fun i wr => ∃ k : Nat, (k : Int) ≤ 256 ∧ i = .int .i64 k ∧ (∀ j : Nat, j < k → sg j ≠ r) ∧ ∃ n, wr = w.drewN n)
     (fun i _ => byteLeft i)
  case atStart => exact ⟨0, by decide, rfl, fun j h => by omega, 0, rfl⟩
  case round =>
    obtain ⟨k, hk, rfl, hall, nd, rfl⟩ := hrel
    by_cases hlt : (k : Int) < 256
    · by_cases he : sg k = r
      · have h2 : (sg (k : Int) == r) = true := by rw [beq_iff_eq]; exact he
        have HE : Hid (sg (k : Int) = r) := Lib.hid he
        clear he hall
        have h3 := sg_bd (c := (k : Int)) (by omega) (by omega)
        go_wp2_with (go_at_call 10; refine (refSign_any _ _ (by omega) (by omega)).mono ?_; rintro e w' ⟨rfl, rfl⟩)
        go_ret2
        have h4 : isSg r = true := by rw [← HE.out]; exact isSg_sg (by omega) (by omega)
        have h5 : by' r = k := by rw [← HE.out]; exact by_sg (by omega) (by omega)
        exact ⟨retU (by rw [h5]) h4.symm, _, rfl⟩
      · have h2 : (sg (k : Int) == r) = false := by rw [beq_eq_false_iff_ne]; exact he
        have HA : Hid (∀ j : Nat, j < k + 1 → sg j ≠ r) := Lib.hid (fun j hj => by
          by_cases e : j = k
          · subst e; exact he
          · exact hall j (by omega))
        clear hall he
        have h3 := sg_bd (c := (k : Int)) (by omega) (by omega)
        go_wp2_with (go_at_call 10; refine (refSign_any _ _ (by omega) (by omega)).mono ?_; rintro e w' ⟨rfl, rfl⟩)
        go_roundw
        case rel => exact ⟨k + 1, by omega, by go_num, HA.out, _, rfl⟩
        case measure => exact byteLeft_lt hlt
    · have hn : isSg r = false := isSg_none fun j hj => hall j (by omega)
      have HN := Lib.hid hn; clear hn hall
      go_wp2
      go_ret2
      exact ⟨retU (by_no HN.out).symm HN.out.symm, _, rfl⟩
end Go.Proofs.Ytkiicmfdhnlgoaa
