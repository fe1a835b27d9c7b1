/- The document's example of layer 2. -/
import Derived.Test.YtkiicmfdhnlgoaaShow
import Derived.OpenShut
namespace Go.Proofs.Ytkiicmfdhnlgoaa
open Go.RowKit

theorem show_ex (w : World) : Calls Try.prog 11 #[.string ⟨#[32]⟩] w fun e w' => e = .returned (.string ⟨#[196, 160]⟩) ∧ Below w.heap.size w w' :=
  (show_any ⟨#[32]⟩ w (by decide)).mono fun e w' ⟨he, hb⟩ => ⟨by rw [he]; rfl, hb⟩
theorem sign_ex (w : World) : Calls Try.prog 9 #[.int .u8 32] w fun e w' => e = .returned (.int .i32 288) ∧ w = w' :=
  (sign_any 32 w (by decide) (by decide)).mono fun e w' ⟨he, hb⟩ => ⟨by rw [he]; rfl, hb⟩

theorem awake_any (w : World) : Calls Try.prog 6 #[] w fun e w' => e = .returned (.bool true) ∧ Below w.heap.size w w' := by
  go_enter Try.func6, Try.ntmps6
  go_wp2_with (first | (go_at_call 9; refine (sign_ex _).mono ?_; rintro e w' ⟨rfl, rfl⟩) | (go_at_call 11; refine (show_ex _).mono ?_; rintro e w' ⟨rfl, hb⟩))
  go_ret
  exact ⟨rfl, hb⟩
end Go.Proofs.Ytkiicmfdhnlgoaa
