/- The walk of SplitWords. -/
import Derived.Test.YtkkpjbhnakbipaaAwake
import Derived.OpenShut
namespace Go.Proofs.Ytkkpjbhnakbipaa
open Go.RowKit

theorem byte_of (n : Int) (h : (Lit.int .u8 n).wf = true) : ∃ c : UInt8, n = (c.toNat : Int) := by
  obtain ⟨h0, h1⟩ := bounds_u8 h
  refine ⟨UInt8.ofNat n.toNat, ?_⟩
  rw [UInt8.toNat_ofNat_of_lt' (by simp [UInt8.size]; omega)]
  omega
theorem ownS.below {w w' : World} {b B : Nat} {v : Value} {L : List (List UInt8)} (h : ownS w b v L) (hb : Below B w w') (hB : w.heap.size ≤ B) : ownS w' b v L :=
  h.kept fun g hg => hb.block g (Nat.lt_of_lt_of_le (h.lt g hg).2 hB)

set_option maxHeartbeats 400000 in
theorem splitWords_walk (a0 : ByteArray) (a1 : Int) (w : World) (w0 : a0.size ≤ maxLen) (w1 : (Lit.int .u8 a1).wf = true) :
    Calls Try.prog 3 #[.string a0, .int .u8 a1] w fun e w' => e = .returned (.bool true) ∧ Below w.heap.size w w' := by
  unfold maxLen at w0
  obtain ⟨c, rfl⟩ := byte_of a1 w1
  clear w1
  by_cases h : 3000 < a0.size
  · go_enter Try.func3, Try.ntmps3
    go_wp2_with (go_at_call 7; refine (awake_any _).mono ?_; rintro e w1 ⟨rfl, hb⟩)
    go_ret
    exact ⟨rfl, hb⟩
  · have hwl := wordsL_len (bs a0)
    rw [size_toList] at hwl
    obtain ⟨L, hL⟩ : ∃ L, L = wordsL (bs a0) := ⟨_, rfl⟩
    rw [← hL] at hwl
    have HL := Lib.hid hL; clear hL
    obtain ⟨b, hb⟩ : ∃ b, b = gapB c := ⟨_, rfl⟩
    have HG := Lib.hid hb; clear hb
    go_enter Try.func3, Try.ntmps3
    go_wp2_with fail
    refine (awake_any _).mono ?_
    rintro e w1 ⟨rfl, hb1⟩
    go_wp2_with fail
    refine (words_any a0 _ (by omega)).mono ?_
    rintro e w2 ⟨r2, rfl, hown2, hb2⟩
    rw [← HL.out] at hown2
    go_wp2_with fail
    refine (refWords_any a0 _ (by omega)).mono ?_
    rintro e w3 ⟨r3, rfl, hown3, hb3⟩
    rw [← HL.out] at hown3
    go_wp2_with fail
    refine (texts_any _ _ L L _ (hown2.below hb3 (Nat.le_refl _)).reads hown3.reads (by omega)).mono ?_
    rintro e w4 ⟨rfl, n, rfl⟩
    have hd : decide (L = L) = true := decide_eq_true rfl
    rw [hd]; clear hd
    go_wp2_with (first | (go_at_call 11; refine (gap_any c _).mono ?_; rintro e w5 ⟨rfl, rfl⟩) | (go_at_call 12; refine (refGap_any c _).mono ?_; rintro e w6 ⟨rfl, rfl⟩))
    go_ret
    have s1 := hb1.size
    have s2 := Nat.le_trans s1 hb2.size
    exact ⟨retB (by simp), below_drewN' ((hb1.trans (hb2.mono s1)).trans (hb3.mono s2)) n⟩
end Go.Proofs.Ytkkpjbhnakbipaa
