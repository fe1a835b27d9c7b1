/- The walk of HexTakes. -/
import Derived.Test.YtoiboofdafgnfaaAwake
import Derived.Test.YtoiboofdafgnfaaRefTake
namespace Go.Proofs.Ytoiboofdafgnfaa
open Go.RowKit

theorem take_as (s : ByteArray) (w : World) (hs : s.size ≤ 1000) {t : ByteArray} {b : Bool} (ht : t = ⟨(takeT s.data.toList).toArray⟩) (hb : takeOk s.data.toList = b) :
    Calls Try.prog 8 #[.string s] w fun e w' => e = .returned (.tuple #[.string t, .bool b]) ∧ Below w.heap.size w w' := by
  subst ht; subst hb; exact take_any s w (by omega)
theorem refTake_as (s : ByteArray) (w : World) (hs : s.size ≤ 1000) {t : ByteArray} {b : Bool} (ht : t = ⟨(takeT s.data.toList).toArray⟩) (hb : takeOk s.data.toList = b) :
    Calls Try.prog 10 #[.string s] w fun e w' => e = .returned (.tuple #[.string t, .bool b]) ∧ Below w.heap.size w w' := by
  subst ht; subst hb; exact refTake_any s w (by omega)
theorem put_take (s t : ByteArray) (w : World) (hs : s.size ≤ 1000) (ht : t = ⟨(takeT s.data.toList).toArray⟩) (hb : takeOk s.data.toList = true) :
    Calls Try.prog 7 #[.string t] w fun e w' => e = .returned (.string s) ∧ Below w.heap.size w w' := by
  subst ht
  refine (put_any _ w ?_).mono fun e w' ⟨he, hbl⟩ => ⟨?_, hbl⟩
  · show (takeT s.data.toList).toArray.size ≤ _
    rw [takeT_ok hb, List.size_toArray, dec_len, Array.length_toList]
    have : s.data.size = s.size := rfl
    omega
  · rw [he]
    show Ending.returned (.string ⟨(putL (takeT s.data.toList)).toArray⟩) = _
    rw [takeT_ok hb, put_dec _ hb]

set_option maxHeartbeats 400000 in
theorem hexTakes_walk (a0 : ByteArray) (w : World) (w0 : a0.size ≤ maxLen) :
    Calls Try.prog 4 #[.string a0] w fun e w' => e = .returned (.bool true) ∧ Below w.heap.size w w' := by
  unfold maxLen at w0
  by_cases h : 1000 < a0.size
  · go_enter Try.func4, Try.ntmps4
    go_wp2_with (go_at_call 6; refine (awake_any _).mono ?_; rintro e w1 ⟨rfl, hb⟩)
    go_ret
    exact ⟨rfl, hb⟩
  · obtain ⟨t, ht⟩ : ∃ t : ByteArray, t = ⟨(takeT a0.data.toList).toArray⟩ := ⟨_, rfl⟩
    have HT := Lib.hid ht; clear ht
    obtain ⟨b, hb⟩ : ∃ b : Bool, takeOk a0.data.toList = b := ⟨_, rfl⟩
    have HB := Lib.hid hb; clear hb
    cases b
    · go_enter Try.func4, Try.ntmps4
      go_wp2_with fail
      refine (awake_any _).mono ?_
      rintro e w1 ⟨rfl, hb1⟩
      go_wp2_with fail
      refine (take_as a0 _ (by omega) HT.out HB.out).mono ?_
      rintro e w2 ⟨rfl, hb2⟩
      go_wp2_with fail
      refine (refTake_as a0 _ (by omega) HT.out HB.out).mono ?_
      rintro e w3 ⟨rfl, hb3⟩
      go_wp2_with fail
      go_ret
      exact ⟨rfl, (hb1.trans (hb2.mono hb1.size)).trans (hb3.mono (Nat.le_trans hb1.size hb2.size))⟩
    · go_enter Try.func4, Try.ntmps4
      go_wp2_with fail
      refine (awake_any _).mono ?_
      rintro e w1 ⟨rfl, hb1⟩
      go_wp2_with fail
      refine (take_as a0 _ (by omega) HT.out HB.out).mono ?_
      rintro e w2 ⟨rfl, hb2⟩
      go_wp2_with fail
      refine (refTake_as a0 _ (by omega) HT.out HB.out).mono ?_
      rintro e w3 ⟨rfl, hb3⟩
      go_wp2_with fail
      refine (put_take a0 t _ (by omega) HT.out HB.out).mono ?_
      rintro e w4 ⟨rfl, hb4⟩
      go_wp2
      go_ret
      exact ⟨rfl, ((hb1.trans (hb2.mono hb1.size)).trans (hb3.mono (Nat.le_trans hb1.size hb2.size))).trans (hb4.mono (Nat.le_trans (Nat.le_trans hb1.size hb2.size) hb3.size))⟩
end Go.Proofs.Ytoiboofdafgnfaa
