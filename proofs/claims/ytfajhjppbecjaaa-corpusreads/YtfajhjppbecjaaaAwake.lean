/- The document's example of layer 5. -/
import Derived.Test.YtfajhjppbecjaaaSpec
import Derived.Test.YtfajhjppbecjaaaTexts
namespace Go.Proofs.Ytfajhjppbecjaaa
open Go.RowKit

theorem awake_spec : SpecOf 9 0 ([[97, 98], [99, 32, 100]] : List (List UInt8)).flatten [[97, 98, 99], [100]] 0 :=
  .inr ⟨9, rfl, by decide, by decide, .inl ⟨fits_all (by decide), rfl, .inl ⟨rfl, by decide⟩⟩⟩
set_option maxHeartbeats 400000 in
theorem awake_any (w : World) : Calls Try.prog 6 #[] w fun e w' => e = .returned (.bool true) ∧ Below w.heap.size w w' := by
  go_enter Try.func6, Try.ntmps6
  go_wp2_with fail
  refine (srcNew_any _ (-1) [[97, 98], [99, 32, 100]] _ (lit_two w [97, 98] [99, 32, 100]) (by intro a n c e; cases e; decide) (by decide) (by decide)).mono ?_
  rintro _ w1 ⟨rfl, ⟨v1, hS1⟩, hb1⟩
  have hB1 : Below w.heap.size w w1 := ((Below.refl _ w).alloc (Nat.le_refl _) _).trans (hb1.mono (by simp))
  have hS1' : Scr w1 w.heap.size (w.heap.size + 1) v1 5 0 [[97, 98], [99, 32, 100]] := by
    have := hS1.mono (base' := w.heap.size) (by simp)
    rw [World.size_alloc] at this
    exact this
  have HS1 := Lib.hid hS1'
  clear hS1 hS1' hb1
  go_wp2_with fail
  refine (read_script 9 w1 w.heap.size (w.heap.size + 1) 5 0 0 v1 _ _ HS1.out (by decide) (by decide) (by decide) awake_spec).mono ?_
  rintro _ w2 ⟨v, L, rfl, ho, hL, hk⟩
  rcases hL with ⟨_, rfl⟩ | ⟨h, _⟩
  case inr => exact absurd rfl h
  have HO := Lib.hid ho; have HK := Lib.hid hk
  clear ho hk
  go_wp2_with fail
  refine (texts_any v _ _ [[97, 98, 99], [100]] _ ((HO.out.below ((Below.refl _ w2).alloc (Nat.le_refl _) _) (Nat.le_refl _)).reads) (lit_two w2 [97, 98, 99] [100]) (by decide)).mono ?_
  rintro _ w3 ⟨rfl, n, rfl⟩
  go_wp2
  go_ret
  refine ⟨rfl, below_drewN' (Below.alloc (Below.kept hB1 HK.out (fun i hi => hi) hB1.size) ?_ _) _⟩
  exact Nat.le_trans hB1.size HK.out.size
end Go.Proofs.Ytfajhjppbecjaaa
