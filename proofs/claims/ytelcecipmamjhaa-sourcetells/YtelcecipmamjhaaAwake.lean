/- The document's example of layer 4. -/
import Derived.Test.YtelcecipmamjhaaKinds
namespace Go.Proofs.Ytelcecipmamjhaa
open Go.RowKit

theorem bytesAt.text {w : World} {x : Value} {l : List UInt8} (h : bytesAt w x l) : (convert 32 9 x).run Try.prog w = .ok (.string ⟨l.toArray⟩) w := by
  obtain ⟨g, cap, cs, fr, rfl, hg, hc⟩ := h
  refine run_convert_bytes_back w 32 9 5 _ cap l Try.underlying32 Try.underlying5 Try.underlying9 fun j hj => ?_
  rw [add_zero_off, cell_of_row w g j cs 5 fr hg, hc j hj]
theorem lit_two (w : World) (a b : List UInt8) : strsAt (w.alloc (.cells #[.string ⟨a.toArray⟩, .string ⟨b.toArray⟩] 9)) (.slice (some ⟨w.heap.size, 0, none⟩) 2 2) [a, b] := by
  refine ⟨_, _, rfl, fun j hj => ⟨_, rfl, ?_⟩⟩
  rw [add_zero_off, cell_of_row _ _ j _ 9 (0, 0) (heap_alloc_new w _)]
  match j, hj with
  | 0, _ => rfl
  | 1, _ => rfl

set_option maxHeartbeats 400000 in
theorem awake_any (w : World) : Calls Try.prog 6 #[] w fun e w' => e = .returned (.bool true) ∧ Below w.heap.size w w' := by
  go_enter Try.func6, Try.ntmps6
  go_wp2_with fail
  refine (new_any _ 1 [[97], [98]] _ (lit_two w [97] [98]) (by intro a n c e; cases e; decide) (by decide) (by decide)).mono ?_
  rintro _ w1 ⟨rfl, ⟨v1, hS1⟩, hb1⟩
  have hB1 : Below w.heap.size w w1 := ((Below.refl _ w).alloc (Nat.le_refl _) _).trans (hb1.mono (by simp))
  have hS1' : Scr w1 w.heap.size (w.heap.size + 1) v1 1 3 [[97]] := by
    have := hS1.mono (base' := w.heap.size) (by simp)
    rw [World.size_alloc] at this
    exact this
  have HS1 := Lib.hid hS1'
  clear hS1 hS1' hb1
  go_wp2_with fail
  refine (next_more _ w.heap.size (w.heap.size + 1) 1 3 v1 [97] [] HS1.out).mono ?_
  rintro _ w2 ⟨c2, v2, rfl, hb2, hr2, hS2, hk2, hm2⟩
  have HS2 := Lib.hid hS2; have HB2 := Lib.hid hb2
  clear hS2 hb2 hr2 hm2
  go_wp2_with fail
  refine (next_end _ w.heap.size (w.heap.size + 1) 1 3 v2 HS2.out).mono ?_
  rintro _ w3 ⟨rfl, n, rfl⟩
  have hc : (convert 32 9 (.slice (some ⟨w1.heap.size, 0, none⟩) 1 c2)).run Try.prog w2 = .ok (.string ⟨#[97]⟩) w2 := HB2.out.text
  have hcd : (convert 32 9 (.slice (some ⟨w1.heap.size, 0, none⟩) 1 c2)).run Try.prog (w2.drewN n) = .ok (.string ⟨#[97]⟩) (w2.drewN n) := bytesAt.text (w := w2.drewN n) (HB2.out.kept fun _ _ => rfl)
  go_wp2
  go_ret
  refine ⟨rfl, ?_⟩
  have h2 := Below.kept hB1 hk2 (by rintro i rfl; omega) hB1.size
  exact below_drewN' h2 _
end Go.Proofs.Ytelcecipmamjhaa
