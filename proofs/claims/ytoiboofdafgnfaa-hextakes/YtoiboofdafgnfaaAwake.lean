/- The document's example of layer 1, and the walk of HexDigits. -/
import Derived.Test.YtoiboofdafgnfaaPut
import Derived.OpenShut
namespace Go.Proofs.Ytoiboofdafgnfaa
open Go.RowKit

theorem put_ex (w : World) : Calls Try.prog 7 #[.string ⟨#[97, 47, 255]⟩] w fun e w' => e = .returned (.string ⟨#[54, 49, 50, 102, 102, 102]⟩) ∧ Below w.heap.size w w' :=
  (put_any ⟨#[97, 47, 255]⟩ w (by decide)).mono fun e w' ⟨he, hb⟩ => ⟨by rw [he]; rfl, hb⟩

theorem awake_any (w : World) : Calls Try.prog 6 #[] w fun e w' => e = .returned (.bool true) ∧ Below w.heap.size w w' := by
  go_enter Try.func6, Try.ntmps6
  go_wp2_with (go_at_call 7; refine (put_ex _).mono ?_; rintro e w' ⟨rfl, hb⟩)
  go_ret
  exact ⟨rfl, hb⟩

set_option maxHeartbeats 400000 in
theorem hexDigits_walk (a0 : Int) (w : World) (w0 : (Lit.int .i32 a0).wf = true) :
    Calls Try.prog 5 #[.int .i32 a0] w fun e w' => e = .returned (.bool true) ∧ Below w.heap.size w w' := by
  have hbd := bounds_i32 w0
  obtain ⟨b0, b1⟩ := hbd
  rcases (show a0 < 0 ∨ (0 ≤ a0 ∧ a0 < 48) ∨ (48 ≤ a0 ∧ a0 ≤ 57) ∨ (57 < a0 ∧ a0 < 97) ∨ (97 ≤ a0 ∧ a0 ≤ 102) ∨ (102 < a0 ∧ a0 < 128) ∨ 128 ≤ a0 from by omega) with h | ⟨h, h'⟩ | ⟨h, h'⟩ | ⟨h, h'⟩ | ⟨h, h'⟩ | ⟨h, h'⟩ | h
  all_goals
    go_enter Try.func5, Try.ntmps5
    go_wp2_with (first | (go_at_call 6; refine (awake_any _).mono ?_; rintro e w1 ⟨rfl, hb⟩) | go_in)
    go_ret
    exact ⟨rfl, hb⟩
end Go.Proofs.Ytoiboofdafgnfaa
