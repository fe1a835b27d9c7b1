/- The walk of GlyphShows. -/
import Derived.Test.YtkiicmfdhnlgoaaAwake
import Derived.Test.YtkiicmfdhnlgoaaRefShow
import Derived.Test.YtkiicmfdhnlgoaaRead
import Derived.Test.YtkiicmfdhnlgoaaWidth
namespace Go.Proofs.Ytkiicmfdhnlgoaa
open Go.RowKit

theorem ba_eq (s : ByteArray) : (⟨s.data.toList.toArray⟩ : ByteArray) = s := by cases s; simp
theorem show_size (s t : ByteArray) (hs : s.size ≤ 1000) (ht : t = ⟨(showL s.data.toList).toArray⟩) : t.size ≤ 1048576 := by
  subst ht
  show (showL s.data.toList).toArray.size ≤ _
  have h1 := showL_len s.data.toList
  have h2 : s.data.toList.length = s.size := by rw [Array.length_toList]; rfl
  rw [List.size_toArray]; omega

theorem show_as (s t : ByteArray) (w : World) (hs : s.size ≤ 1000) (ht : t = ⟨(showL s.data.toList).toArray⟩) :
    Calls Try.prog 11 #[.string s] w fun e w' => e = .returned (.string t) ∧ Below w.heap.size w w' := by
  subst ht; exact show_any s w (by omega)
theorem refShow_as (s t : ByteArray) (w : World) (hs : s.size ≤ 1000) (ht : t = ⟨(showL s.data.toList).toArray⟩) :
    Calls Try.prog 13 #[.string s] w fun e w' => e = .returned (.string t) ∧ Below w.heap.size w w' := by
  subst ht; exact refShow_any s w (by omega)
theorem read_show (s t : ByteArray) (w : World) (hs : s.size ≤ 1000) (ht : t = ⟨(showL s.data.toList).toArray⟩) :
    Calls Try.prog 12 #[.string t] w fun e w' => e = .returned (.tuple #[.string s, .bool true]) ∧ Below w.heap.size w w' := by
  refine (read_any t w (show_size s t hs ht)).mono fun e w' ⟨l, b, he, hr, hb⟩ => ⟨?_, hb⟩
  have e0 : t.data.toList = showL s.data.toList := by rw [ht]
  rcases hr with ⟨rfl, h⟩ | ⟨_, _, h⟩
  · rw [e0] at h
    rw [he, show_inj h, ba_eq]
  · exact absurd e0.symm (h _)
theorem width_show (s t : ByteArray) (w : World) (hs : s.size ≤ 1000) (ht : t = ⟨(showL s.data.toList).toArray⟩) :
    Calls Try.prog 14 #[.string t] w fun e w' => e = .returned (.int .i64 (s.size : Int)) ∧ Below w.heap.size w w' := by
  refine (width_any t w (show_size s t hs ht)).mono fun e w' ⟨he, hb⟩ => ⟨?_, hb⟩
  have e0 : showL s.data.toList = t.data.toList := by rw [ht]
  rw [he, count_show e0, Array.length_toList]
  rfl

set_option maxHeartbeats 400000 in
theorem glyphShows_walk (a0 : ByteArray) (w : World) (w0 : a0.size ≤ maxLen) :
    Calls Try.prog 4 #[.string a0] w fun e w' => e = .returned (.bool true) ∧ Below w.heap.size w w' := by
  unfold maxLen at w0
  by_cases h : 500 < a0.size
  · go_enter Try.func4, Try.ntmps4
    go_wp2_with (go_at_call 6; refine (awake_any _).mono ?_; rintro e w1 ⟨rfl, hb⟩)
    go_ret
    exact ⟨rfl, hb⟩
  · obtain ⟨t, ht⟩ : ∃ t : ByteArray, t = ⟨(showL a0.data.toList).toArray⟩ := ⟨_, rfl⟩
    have HT := Lib.hid ht; clear ht
    go_enter Try.func4, Try.ntmps4
    go_wp2_with fail
    refine (awake_any _).mono ?_
    rintro e w1 ⟨rfl, hb1⟩
    go_wp2_with fail
    refine (show_as a0 t _ (by omega) HT.out).mono ?_
    rintro e w2 ⟨rfl, hb2⟩
    go_wp2_with fail
    refine (read_show a0 t _ (by omega) HT.out).mono ?_
    rintro e w3 ⟨rfl, hb3⟩
    go_wp2_with fail
    refine (refShow_as a0 t _ (by omega) HT.out).mono ?_
    rintro e w4 ⟨rfl, hb4⟩
    go_wp2_with fail
    refine (width_show a0 t _ (by omega) HT.out).mono ?_
    rintro e w5 ⟨rfl, hb5⟩
    go_wp2
    go_ret
    have s1 := hb1.size
    have s2 := Nat.le_trans s1 hb2.size
    have s3 := Nat.le_trans s2 hb3.size
    have s4 := Nat.le_trans s3 hb4.size
    exact ⟨rfl, (((hb1.trans (hb2.mono s1)).trans (hb3.mono s2)).trans (hb4.mono s3)).trans (hb5.mono s4)⟩
end Go.Proofs.Ytkiicmfdhnlgoaa
