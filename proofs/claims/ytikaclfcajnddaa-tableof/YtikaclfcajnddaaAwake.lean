/- The document's example of layer 8. -/
import Derived.Test.YtikaclfcajnddaaWeight
namespace Go.Proofs.Ytikaclfcajnddaa
open Go.RowKit

theorem awake_weight : weighOf [(⟨#[97, 98]⟩, 3), (⟨#[98]⟩, 2)] = (3, true) := by decide
theorem awake_bytes : bytesOf [(⟨#[97, 98]⟩, 3), (⟨#[98]⟩, 2)] = 3 := by decide
theorem awake_fits : Fits [(⟨#[97, 98]⟩, 3), (⟨#[98]⟩, 2)] := by
  intro p hp
  simp only [List.mem_cons, List.not_mem_nil, or_false] at hp
  rcases hp with rfl | rfl <;> decide
set_option maxHeartbeats 1000000 in
theorem awake_any (w : World) : Calls Try.prog 6 #[] w fun e w' => e = .returned (.bool true) ∧ Below w.heap.size w w' := by
  have cW := fun v w h => weight_any v _ w h (by decide) awake_fits
  rw [awake_weight] at cW
  have cP := fun v w h => positions_any v [(⟨#[97, 98]⟩, 3), (⟨#[98]⟩, 2)] w h (by decide) (by decide)
  rw [awake_bytes] at cP
  have HA : Hid (Below w.heap.size w (w.alloc (.cells #[.string ⟨#[97, 98]⟩, .int .i64 3, .string ⟨#[98]⟩, .int .i64 2] 36))) := Lib.hid ((Below.refl _ w).alloc (Nat.le_refl _) _)
  go_enter Try.func6, Try.ntmps6
  go_wp2_with fail
  refine (cW _ _ (two_words w _ _ _ _)).mono ?_
  rintro e w1 ⟨rfl, hb1⟩
  have HB1 : Hid (Below w.heap.size w w1) := Lib.hid (HA.out.trans (hb1.mono HA.out.size))
  have HA2 : Hid (Below w.heap.size w (w1.alloc (.cells #[.string ⟨#[97, 98]⟩, .int .i64 3, .string ⟨#[98]⟩, .int .i64 2] 36))) := Lib.hid (HB1.out.alloc HB1.out.size _)
  clear hb1
  go_wp2_with fail
  refine (cP _ _ (two_words w1 _ _ _ _)).mono ?_
  rintro e w2 ⟨rfl, hb2⟩
  have HB2 : Hid (Below w.heap.size w w2) := Lib.hid (HA2.out.trans (hb2.mono HA2.out.size))
  clear hb2
  go_wp2
  go_ret
  exact ⟨rfl, HB2.out⟩
end Go.Proofs.Ytikaclfcajnddaa
