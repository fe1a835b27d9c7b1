/- The document's example of layer 7. -/
import Derived.Test.YtikdhlpmoldijaaAddAll
import Derived.Test.YtikdhlpmoldijaaFreeze
namespace Go.Proofs.Ytikdhlpmoldijaa
open Go.RowKit Go.Maps

theorem awake_bag : addAllW [] [[98], [97], [98]] = ([(⟨#[97]⟩, 1), (⟨#[98]⟩, 2)], 0) := by decide
theorem lit_three (w : World) (a b c : List UInt8) : strsAt (w.alloc (.cells #[.string ⟨a.toArray⟩, .string ⟨b.toArray⟩, .string ⟨c.toArray⟩] 9)) (.slice (some ⟨w.heap.size, 0, none⟩) 3 3) [a, b, c] := by
  refine ⟨_, _, rfl, fun j hj => ⟨_, rfl, ?_⟩⟩
  rw [add_zero_off, cell_of_row _ _ j _ 9 (0, 0) (heap_alloc_new w _)]
  match j, hj with
  | 0, _ => rfl
  | 1, _ => rfl
  | 2, _ => rfl
theorem two_words (w : World) (s t : ByteArray) (c d : Int) : wordsAt (w.alloc (.cells #[.string s, .int .i64 c, .string t, .int .i64 d] 30)) (.slice (some ⟨w.heap.size, 0, none⟩) 2 2) [(s, c), (t, d)] := by
  refine ⟨_, 2, rfl, fun j hj => ⟨_, rfl, by simp, ?_⟩⟩
  rw [← two_cell, add_zero_off, add_zero_off, cell_of_row _ _ _ _ 30 (0, 0) (heap_alloc_new w _), cell_of_row _ _ _ _ 30 (0, 0) (heap_alloc_new w _)]
  match j, hj with
  | 0, _ => exact ⟨rfl, rfl⟩
  | 1, _ => exact ⟨rfl, rfl⟩
set_option maxHeartbeats 1000000 in
theorem awake_any (w : World) : Calls Try.prog 6 #[] w fun e w' => e = .returned (.bool true) ∧ Below w.heap.size w w' := by
  go_enter Try.func6, Try.ntmps6
  go_wp2_with fail
  refine (new_any _).mono ?_
  rintro e w1 ⟨rfl, hw1⟩
  have HC : Hid (Cnt w1 w.heap.size none []) := Lib.hid (by rw [hw1]; exact new_cnt w)
  have HB : Hid (Below w.heap.size w w1) := Lib.hid (by rw [hw1]; exact (Below.refl _ w).alloc (Nat.le_refl _) _)
  clear hw1
  obtain ⟨K, hK⟩ : ∃ K, w.heap.size = K := ⟨_, rfl⟩
  have HK := Lib.hid hK
  rw [hK] at HC ⊢
  clear hK
  have HC2 : Hid (Cnt (w1.alloc (.cells #[.string ⟨#[98]⟩, .string ⟨#[97]⟩, .string ⟨#[98]⟩] 9)) K none []) := Lib.hid (HC.out.below ((Below.refl _ w1).alloc (Nat.le_refl _) _))
  have HB2 : Hid (Below w.heap.size w (w1.alloc (.cells #[.string ⟨#[98]⟩, .string ⟨#[97]⟩, .string ⟨#[98]⟩] 9))) := Lib.hid (HB.out.alloc HB.out.size _)
  have HL := Lib.hid (lit_three w1 [98] [97] [98])
  have HA : Hid (∀ k, (Value.slice (some ⟨w1.heap.size, 0, none⟩) 3 3).ownBlock = some k → ¬ mineC K none k) := Lib.hid (by
    intro k hk hm
    simp [Value.ownBlock] at hk
    have := HC.out.lt
    rcases hm with e | e
    · omega
    · cases e)
  go_wp2_with fail
  refine (caddAll_any K none [] _ [[98], [97], [98]] _ HC2.out HL.out (fun _ => HA.out) (by simp) (by simp)).mono ?_
  rintro e w2 ⟨rfl, b2, hc2, hk2, hb2⟩
  rw [awake_bag] at hc2 ⊢
  have HC3 := Lib.hid hc2
  have HB3 : Hid (Below w.heap.size w w2) := Lib.hid (HB2.out.trans (hk2.below HB2.out.size fun k hk => by
    rcases hk with e | e
    · rw [e, HK.out]; exact Nat.le_refl _
    · cases e))
  clear hc2 hk2 hb2
  go_wp2_with fail
  refine (freeze_any K b2 _ _ HC3.out (by simp)).mono ?_
  rintro e w3 ⟨r3, rfl, ho3, hb3⟩
  have HO3 := Lib.hid ho3
  have HB4 : Hid (Below w.heap.size w w3) := Lib.hid (HB3.out.trans (hb3.mono HB3.out.size))
  have HR := Lib.hid (ho3.reads.below ((Below.refl _ w3).alloc (o := .cells #[.string ⟨#[97]⟩, .int .i64 1, .string ⟨#[98]⟩, .int .i64 2] 30) (Nat.le_refl _)) (Nat.le_refl _))
  clear ho3 hb3
  go_wp2_with fail
  refine (same_true _ _ _ _ HR.out (two_words w3 _ _ _ _) (by simp)).mono ?_
  rintro e w5 ⟨rfl, n5, rfl⟩
  go_wp2
  go_ret
  exact ⟨rfl, below_drewN' (HB4.out.alloc HB4.out.size _) n5⟩
end Go.Proofs.Ytikdhlpmoldijaa
