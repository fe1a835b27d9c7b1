/- The walk of HexPuts. -/
import Derived.Test.YtoiboofdafgnfaaAwake
import Derived.Test.YtoiboofdafgnfaaRefPut
import Derived.Test.YtoiboofdafgnfaaTake
namespace Go.Proofs.Ytoiboofdafgnfaa
open Go.RowKit

theorem ba_eq (s : ByteArray) : (⟨s.data.toList.toArray⟩ : ByteArray) = s := by cases s; simp

theorem take_put (s : ByteArray) (w : World) (hs : s.size ≤ 1000) :
    Calls Try.prog 8 #[.string ⟨(putL s.data.toList).toArray⟩] w fun e w' => e = .returned (.tuple #[.string s, .bool true]) ∧ Below w.heap.size w w' := by
  refine (take_any ⟨(putL s.data.toList).toArray⟩ w ?_).mono fun e w' ⟨he, hb⟩ => ⟨?_, hb⟩
  · show (putL s.data.toList).toArray.size ≤ _
    rw [List.size_toArray, putL_len, Array.length_toList]
    have : s.data.size = s.size := rfl
    omega
  · rw [he]
    show Ending.returned (.tuple #[.string ⟨(takeT (putL s.data.toList)).toArray⟩, .bool (takeOk (putL s.data.toList))]) = _
    rw [takeT_ok (takeOk_put _), takeOk_put, dec_put, ba_eq]

set_option maxHeartbeats 400000 in
theorem hexPuts_walk (a0 : ByteArray) (w : World) (w0 : a0.size ≤ maxLen) :
    Calls Try.prog 3 #[.string a0] w fun e w' => e = .returned (.bool true) ∧ Below w.heap.size w w' := by
  unfold maxLen at w0
  by_cases h : 1000 < a0.size
  · go_enter Try.func3, Try.ntmps3
    go_wp2_with (go_at_call 6; refine (awake_any _).mono ?_; rintro e w1 ⟨rfl, hb⟩)
    go_ret
    exact ⟨rfl, hb⟩
  · go_enter Try.func3, Try.ntmps3
    go_wp2_with fail
    refine (awake_any _).mono ?_
    rintro e w1 ⟨rfl, hb1⟩
    go_wp2_with fail
    refine (put_any a0 _ (by omega)).mono ?_
    rintro e w2 ⟨rfl, hb2⟩
    go_wp2_with fail
    refine (take_put a0 _ (by omega)).mono ?_
    rintro e w3 ⟨rfl, hb3⟩
    go_wp2_with fail
    refine (refPut_any a0 _ (by omega)).mono ?_
    rintro e w4 ⟨rfl, n, rfl⟩
    go_wp2
    go_ret
    exact ⟨rfl, below_drewN ((hb1.trans (hb2.mono hb1.size)).trans (hb3.mono (Nat.le_trans hb1.size hb2.size))) n⟩
end Go.Proofs.Ytoiboofdafgnfaa
