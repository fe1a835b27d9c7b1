/- The walk of GlyphReads. -/
import Derived.Test.YtkiicmfdhnlgoaaShowsWalk
import Derived.Test.YtkiicmfdhnlgoaaRefRead
namespace Go.Proofs.Ytkiicmfdhnlgoaa
open Go.RowKit

theorem readOf_yes {t : ByteArray} {l l' : List UInt8} {b : Bool} (h : ReadOf t l b) (hl : showL l' = t.data.toList) : l = l' ∧ b = true := by
  rcases h with ⟨rfl, h⟩ | ⟨_, _, h⟩
  · exact ⟨show_inj (h.trans hl.symm), rfl⟩
  · exact absurd hl (h _)
theorem readOf_no {t : ByteArray} {l : List UInt8} {b : Bool} (h : ReadOf t l b) (hn : ∀ m, showL m ≠ t.data.toList) : l = [] ∧ b = false := by
  rcases h with ⟨rfl, h⟩ | ⟨hb, hl, _⟩
  · exact absurd h (hn _)
  · exact ⟨hl, hb⟩
theorem read_yes (t s : ByteArray) (w : World) (hs : t.size ≤ 1000) (h : showL s.data.toList = t.data.toList) :
    Calls Try.prog 12 #[.string t] w fun e w' => e = .returned (.tuple #[.string s, .bool true]) ∧ Below w.heap.size w w' :=
  (read_any t w (by omega)).mono fun e w' ⟨l, b, he, hr, hb⟩ => ⟨by obtain ⟨rfl, rfl⟩ := readOf_yes hr h; rw [he, ba_eq], hb⟩
theorem read_no (t : ByteArray) (w : World) (hs : t.size ≤ 1000) (h : ∀ m, showL m ≠ t.data.toList) :
    Calls Try.prog 12 #[.string t] w fun e w' => e = .returned (.tuple #[.string ⟨#[]⟩, .bool false]) ∧ Below w.heap.size w w' :=
  (read_any t w (by omega)).mono fun e w' ⟨l, b, he, hr, hb⟩ => ⟨by obtain ⟨rfl, rfl⟩ := readOf_no hr h; rw [he], hb⟩
theorem refRead_yes (t s : ByteArray) (w : World) (hs : t.size ≤ 1000) (h : showL s.data.toList = t.data.toList) :
    Calls Try.prog 15 #[.string t] w fun e w' => e = .returned (.tuple #[.string s, .bool true]) ∧ Below w.heap.size w w' :=
  (refRead_any t w (by omega)).mono fun e w' ⟨l, b, he, hr, hb⟩ => ⟨by obtain ⟨rfl, rfl⟩ := readOf_yes hr h; rw [he, ba_eq], hb⟩
theorem refRead_no (t : ByteArray) (w : World) (hs : t.size ≤ 1000) (h : ∀ m, showL m ≠ t.data.toList) :
    Calls Try.prog 15 #[.string t] w fun e w' => e = .returned (.tuple #[.string ⟨#[]⟩, .bool false]) ∧ Below w.heap.size w w' :=
  (refRead_any t w (by omega)).mono fun e w' ⟨l, b, he, hr, hb⟩ => ⟨by obtain ⟨rfl, rfl⟩ := readOf_no hr h; rw [he], hb⟩
theorem width_at (t : ByteArray) (n : Int) (w : World) (hs : t.size ≤ 1000) (h : n = (Lib.runeCount t : Int)) :
    Calls Try.prog 14 #[.string t] w fun e w' => e = .returned (.int .i64 n) ∧ Below w.heap.size w w' := by
  subst h; exact width_any t w (by omega)
theorem show_back (t s : ByteArray) (w : World) (hs : s.size ≤ 1000) (h : showL s.data.toList = t.data.toList) :
    Calls Try.prog 11 #[.string s] w fun e w' => e = .returned (.string t) ∧ Below w.heap.size w w' :=
  show_as s t w hs (by rw [h, ba_eq])

theorem width_facts (t : ByteArray) : (0 : Int) ≤ (Lib.runeCount t : Int) ∧ (Lib.runeCount t : Int) ≤ (t.size : Int) ∧ ((0 < (Lib.runeCount t : Int) ∧ 0 < (t.size : Int)) ∨ ((Lib.runeCount t : Int) ≤ 0 ∧ (t.size : Int) ≤ 0)) := by
  have h := Lib.runeCount_le t
  by_cases hz : 0 < t.size
  · have := count_pos hz; omega
  · omega

set_option maxRecDepth 100000 in
set_option maxHeartbeats 1000000 in
theorem glyphReads_walk (a0 : ByteArray) (w : World) (w0 : a0.size ≤ maxLen) :
    Calls Try.prog 5 #[.string a0] w fun e w' => e = .returned (.bool true) ∧ Below w.heap.size w w' := by
  unfold maxLen at w0
  by_cases h : 500 < a0.size
  · go_enter Try.func5, Try.ntmps5
    go_wp2_with (go_at_call 6; refine (awake_any _).mono ?_; rintro e w1 ⟨rfl, hb⟩)
    go_ret
    exact ⟨rfl, hb⟩
  · obtain ⟨n, hn⟩ : ∃ n : Int, n = (Lib.runeCount a0 : Int) := ⟨_, rfl⟩
    obtain ⟨n0, n1, n2⟩ := width_facts a0
    rw [← hn] at n0 n1 n2
    by_cases hr : ∃ l, showL l = a0.data.toList
    · obtain ⟨l, hl⟩ := hr
      obtain ⟨t, ht⟩ : ∃ t : ByteArray, t.data.toList = l := ⟨⟨l.toArray⟩, by simp⟩
      have hlen : l.length = t.size := by rw [← ht, Array.length_toList]; rfl
      have hnt : n = (t.size : Int) := by rw [hn, count_show hl, hlen]
      subst ht
      have HN := Lib.hid hn; clear hn
      have HL := Lib.hid hl; clear hl hlen
      subst hnt
      have HC : Hid ((t.size : Int) = (Lib.runeCount a0 : Int)) := HN
      rcases n2 with ⟨n2, n3⟩ | ⟨n2, n3⟩
      all_goals
        go_enter Try.func5, Try.ntmps5
        go_wp2_with fail
        refine (awake_any _).mono ?_
        rintro e w1 ⟨rfl, hb1⟩
        go_wp2_with fail
        refine (read_yes a0 t _ (by omega) HL.out).mono ?_
        rintro e w2 ⟨rfl, hb2⟩
        go_wp2_with fail
        refine (refRead_yes a0 t _ (by omega) HL.out).mono ?_
        rintro e w3 ⟨rfl, hb3⟩
        go_wp2_with fail
        refine (width_at a0 _ _ (by omega) HC.out).mono ?_
        rintro e w4 ⟨rfl, hb4⟩
        go_wp2_with fail
        refine (show_back a0 t _ (by omega) HL.out).mono ?_
        rintro e w5 ⟨rfl, hb5⟩
        go_wp2
        go_ret
        have s1 := hb1.size
        have s2 := Nat.le_trans s1 hb2.size
        have s3 := Nat.le_trans s2 hb3.size
        have s4 := Nat.le_trans s3 hb4.size
        exact ⟨retB (by first | (rw [beq_iff_eq, decide_eq_decide]; omega) | exact decide_eq_true (by omega)), (((hb1.trans (hb2.mono s1)).trans (hb3.mono s2)).trans (hb4.mono s3)).trans (hb5.mono s4)⟩
    · have hno : ∀ m, showL m ≠ a0.data.toList := fun m hm => hr ⟨m, hm⟩
      have HR := Lib.hid hno
      have HN := Lib.hid hn
      clear hr hno hn
      rcases n2 with ⟨n2, n3⟩ | ⟨n2, n3⟩
      all_goals
        go_enter Try.func5, Try.ntmps5
        go_wp2_with fail
        refine (awake_any _).mono ?_
        rintro e w1 ⟨rfl, hb1⟩
        go_wp2_with fail
        refine (read_no a0 _ (by omega) HR.out).mono ?_
        rintro e w2 ⟨rfl, hb2⟩
        go_wp2_with fail
        refine (refRead_no a0 _ (by omega) HR.out).mono ?_
        rintro e w3 ⟨rfl, hb3⟩
        go_wp2_with fail
        refine (width_at a0 n _ (by omega) HN.out).mono ?_
        rintro e w4 ⟨rfl, hb4⟩
        go_wp2
        go_ret
        have s1 := hb1.size
        have s2 := Nat.le_trans s1 hb2.size
        have s3 := Nat.le_trans s2 hb3.size
        exact ⟨retB (by first | (rw [beq_iff_eq, decide_eq_decide]; omega) | exact decide_eq_true (by omega)), ((hb1.trans (hb2.mono s1)).trans (hb3.mono s2)).trans (hb4.mono s3)⟩
end Go.Proofs.Ytkiicmfdhnlgoaa
