/- The contract of glyph.Byte. -/
import Derived.Test.YtkiicmfdhnlgoaaSign
namespace Go.Proofs.Ytkiicmfdhnlgoaa
open Go.RowKit

theorem own_no1 {c : Int} (h : c ≤ 32) : own c = false := by unfold own; rw [decide_eq_false_iff_not]; omega
theorem own_no2 {c : Int} (h : 127 ≤ c) (h' : c ≤ 160) : own c = false := by unfold own; rw [decide_eq_false_iff_not]; omega
theorem own_no3 {c : Int} (h : c = 173) : own c = false := by unfold own; rw [decide_eq_false_iff_not]; omega
theorem own_no4 {c : Int} (h : 256 ≤ c) : own c = false := by unfold own; rw [decide_eq_false_iff_not]; omega
theorem own_yes1 {c : Int} (h : 32 < c) (h' : c < 127) : own c = true := by unfold own; rw [decide_eq_true_iff]; omega
theorem own_yes2 {c : Int} (h : 160 < c) (h' : c < 256) (h'' : c ≠ 173) : own c = true := by unfold own; rw [decide_eq_true_iff]; omega
theorem by_own {c : Int} (h : own c = true) : c = by' c ∧ true = isSg c := by
  have hs : isSg c = true := by unfold own at h; unfold isSg; rw [decide_eq_true_iff] at h ⊢; omega
  unfold by'; rw [if_pos hs]; unfold own at h; rw [decide_eq_true_iff] at h
  exact ⟨by (repeat' split) <;> omega, hs.symm⟩
theorem by_low {c : Int} (h : 256 ≤ c) (h' : c < 289) : c - 256 = by' c ∧ true = isSg c := by
  have hs : isSg c = true := by unfold isSg; rw [decide_eq_true_iff]; omega
  unfold by'; rw [if_pos hs, if_pos ⟨h, h'⟩]; exact ⟨rfl, hs.symm⟩
theorem by_mid {c : Int} (h : 289 ≤ c) (h' : c < 323) : c - 162 = by' c ∧ true = isSg c := by
  have hs : isSg c = true := by unfold isSg; rw [decide_eq_true_iff]; omega
  unfold by'; rw [if_pos hs, if_neg (by omega), if_pos ⟨h, h'⟩]; exact ⟨rfl, hs.symm⟩
theorem isSg_not {c : Int} (h : c ≤ 32 ∨ (127 ≤ c ∧ c ≤ 160) ∨ c = 173 ∨ 323 < c) : 0 = by' c ∧ false = isSg c := by
  have hs : isSg c = false := by unfold isSg; rw [decide_eq_false_iff_not]; omega
  exact ⟨(by_no hs).symm, hs.symm⟩


theorem by_last {c : Int} (h : c = 323) : 173 = by' c ∧ true = isSg c := by subst h; decide

set_option maxHeartbeats 400000 in
theorem byte_a (c : Int) (w : World) (h0 : -2147483648 ≤ c) (h1 : c ≤ 2147483647) (h : c ≤ 32) :
    Calls Try.prog 7 #[.int .i32 c] w fun e w' => e = .returned (.tuple #[.int .u8 (by' c), .bool (isSg c)]) ∧ w = w' := by
  have HN := Lib.hid (isSg_not (.inl h))
  have HO := Lib.hid (own_no1 h)
  go_enter Try.func7, Try.ntmps7
  go_wp2_with (go_at_call 16; refine (own_as _ (by omega) (by omega) HO.out).mono ?_; rintro e w' ⟨rfl, rfl⟩)
  go_ret2
  exact ⟨retU (by rw [← HN.out.1]) HN.out.2, rfl⟩

set_option maxHeartbeats 400000 in
theorem byte_b (c : Int) (w : World) (h0 : -2147483648 ≤ c) (h1 : c ≤ 2147483647) (h : 127 ≤ c) (h' : c ≤ 160) :
    Calls Try.prog 7 #[.int .i32 c] w fun e w' => e = .returned (.tuple #[.int .u8 (by' c), .bool (isSg c)]) ∧ w = w' := by
  have HN := Lib.hid (isSg_not (.inr (.inl ⟨h, h'⟩)))
  have HO := Lib.hid (own_no2 h h')
  go_enter Try.func7, Try.ntmps7
  go_wp2_with (go_at_call 16; refine (own_as _ (by omega) (by omega) HO.out).mono ?_; rintro e w' ⟨rfl, rfl⟩)
  go_ret2
  exact ⟨retU (by rw [← HN.out.1]) HN.out.2, rfl⟩

set_option maxHeartbeats 400000 in
theorem byte_c (c : Int) (w : World) (h0 : -2147483648 ≤ c) (h1 : c ≤ 2147483647) (h : 173 ≤ c) (h' : c ≤ 173) :
    Calls Try.prog 7 #[.int .i32 c] w fun e w' => e = .returned (.tuple #[.int .u8 (by' c), .bool (isSg c)]) ∧ w = w' := by
  have HN := Lib.hid (isSg_not (.inr (.inr (.inl (show c = 173 from by omega)))))
  have HO := Lib.hid (own_no3 (show c = 173 from by omega))
  go_enter Try.func7, Try.ntmps7
  go_wp2_with (go_at_call 16; refine (own_as _ (by omega) (by omega) HO.out).mono ?_; rintro e w' ⟨rfl, rfl⟩)
  go_ret2
  exact ⟨retU (by rw [← HN.out.1]) HN.out.2, rfl⟩

set_option maxHeartbeats 400000 in
theorem byte_d (c : Int) (w : World) (h0 : -2147483648 ≤ c) (h1 : c ≤ 2147483647) (h : 323 < c) :
    Calls Try.prog 7 #[.int .i32 c] w fun e w' => e = .returned (.tuple #[.int .u8 (by' c), .bool (isSg c)]) ∧ w = w' := by
  have HN := Lib.hid (isSg_not (.inr (.inr (.inr h))))
  have HO := Lib.hid (own_no4 (show 256 ≤ c from by omega))
  go_enter Try.func7, Try.ntmps7
  go_wp2_with (go_at_call 16; refine (own_as _ (by omega) (by omega) HO.out).mono ?_; rintro e w' ⟨rfl, rfl⟩)
  go_ret2
  exact ⟨retU (by rw [← HN.out.1]) HN.out.2, rfl⟩

set_option maxHeartbeats 400000 in
theorem byte_e (c : Int) (w : World) (h0 : -2147483648 ≤ c) (h1 : c ≤ 2147483647) (h : 32 < c) (h' : c < 127) :
    Calls Try.prog 7 #[.int .i32 c] w fun e w' => e = .returned (.tuple #[.int .u8 (by' c), .bool (isSg c)]) ∧ w = w' := by
  have HN := Lib.hid (by_own (own_yes1 h h'))
  have HO := Lib.hid (own_yes1 h h')
  go_enter Try.func7, Try.ntmps7
  go_wp2_with (go_at_call 16; refine (own_as _ (by omega) (by omega) HO.out).mono ?_; rintro e w' ⟨rfl, rfl⟩)
  go_ret2
  exact ⟨retU (by rw [← HN.out.1]) HN.out.2, rfl⟩

set_option maxHeartbeats 400000 in
theorem byte_f (c : Int) (w : World) (h0 : -2147483648 ≤ c) (h1 : c ≤ 2147483647) (h : 160 < c) (h' : c < 256) (h'' : c ≠ 173) :
    Calls Try.prog 7 #[.int .i32 c] w fun e w' => e = .returned (.tuple #[.int .u8 (by' c), .bool (isSg c)]) ∧ w = w' := by
  have HN := Lib.hid (by_own (own_yes2 h h' h''))
  have HO := Lib.hid (own_yes2 h h' h'')
  go_enter Try.func7, Try.ntmps7
  go_wp2_with (go_at_call 16; refine (own_as _ (by omega) (by omega) HO.out).mono ?_; rintro e w' ⟨rfl, rfl⟩)
  go_ret2
  exact ⟨retU (by rw [← HN.out.1]) HN.out.2, rfl⟩

set_option maxHeartbeats 400000 in
theorem byte_g (c : Int) (w : World) (h0 : -2147483648 ≤ c) (h1 : c ≤ 2147483647) (h : 256 ≤ c) (h' : c < 289) :
    Calls Try.prog 7 #[.int .i32 c] w fun e w' => e = .returned (.tuple #[.int .u8 (by' c), .bool (isSg c)]) ∧ w = w' := by
  have HN := Lib.hid (by_low h h')
  have HO := Lib.hid (own_no4 h)
  go_enter Try.func7, Try.ntmps7
  go_wp2_with (go_at_call 16; refine (own_as _ (by omega) (by omega) HO.out).mono ?_; rintro e w' ⟨rfl, rfl⟩)
  go_ret2
  exact ⟨retU (by rw [← HN.out.1]) HN.out.2, rfl⟩

set_option maxHeartbeats 400000 in
theorem byte_h (c : Int) (w : World) (h0 : -2147483648 ≤ c) (h1 : c ≤ 2147483647) (h : 289 ≤ c) (h' : c < 323) :
    Calls Try.prog 7 #[.int .i32 c] w fun e w' => e = .returned (.tuple #[.int .u8 (by' c), .bool (isSg c)]) ∧ w = w' := by
  have HN := Lib.hid (by_mid h h')
  have HO := Lib.hid (own_no4 (show 256 ≤ c from by omega))
  go_enter Try.func7, Try.ntmps7
  go_wp2_with (go_at_call 16; refine (own_as _ (by omega) (by omega) HO.out).mono ?_; rintro e w' ⟨rfl, rfl⟩)
  go_ret2
  exact ⟨retU (by rw [← HN.out.1]; omega) HN.out.2, rfl⟩

set_option maxHeartbeats 400000 in
theorem byte_i (c : Int) (w : World) (h0 : -2147483648 ≤ c) (h1 : c ≤ 2147483647) (h : 323 ≤ c) (h' : c ≤ 323) :
    Calls Try.prog 7 #[.int .i32 c] w fun e w' => e = .returned (.tuple #[.int .u8 (by' c), .bool (isSg c)]) ∧ w = w' := by
  have HN := Lib.hid (by_last (show c = 323 from by omega))
  have HO := Lib.hid (own_no4 (show 256 ≤ c from by omega))
  go_enter Try.func7, Try.ntmps7
  go_wp2_with (go_at_call 16; refine (own_as _ (by omega) (by omega) HO.out).mono ?_; rintro e w' ⟨rfl, rfl⟩)
  go_ret2
  exact ⟨retU (by rw [← HN.out.1]) HN.out.2, rfl⟩

theorem byte_any (c : Int) (w : World) (h0 : -2147483648 ≤ c) (h1 : c ≤ 2147483647) :
    Calls Try.prog 7 #[.int .i32 c] w fun e w' => e = .returned (.tuple #[.int .u8 (by' c), .bool (isSg c)]) ∧ w = w' := by
  rcases (show c ≤ 32 ∨ (127 ≤ c ∧ c ≤ 160) ∨ c = 173 ∨ 323 < c ∨ (32 < c ∧ c < 127) ∨ (160 < c ∧ c < 256 ∧ c ≠ 173) ∨ (256 ≤ c ∧ c < 289) ∨ (289 ≤ c ∧ c < 323) ∨ c = 323 from by omega) with h | ⟨h, h'⟩ | h | h | ⟨h, h'⟩ | ⟨h, h', h''⟩ | ⟨h, h'⟩ | ⟨h, h'⟩ | h
  · exact byte_a c w h0 h1 h
  · exact byte_b c w h0 h1 h h'
  · exact byte_c c w h0 h1 (by omega) (by omega)
  · exact byte_d c w h0 h1 h
  · exact byte_e c w h0 h1 h h'
  · exact byte_f c w h0 h1 h h' h''
  · exact byte_g c w h0 h1 h h'
  · exact byte_h c w h0 h1 h h'
  · exact byte_i c w h0 h1 (by omega) (by omega)
end Go.Proofs.Ytkiicmfdhnlgoaa
