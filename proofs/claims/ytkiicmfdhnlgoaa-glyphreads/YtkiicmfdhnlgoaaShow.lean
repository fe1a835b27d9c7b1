/- The contract of glyph.Show. -/
import Derived.Test.YtkiicmfdhnlgoaaRune
namespace Go.Proofs.Ytkiicmfdhnlgoaa
open Go.RowKit

def sgN (b : UInt8) : Nat := (sg (b.toNat : Int)).toNat
/-- The signs of a list of bytes. -/
def showL (l : List UInt8) : List UInt8 := l.flatMap fun b => enc (sgN b)
theorem showL_snoc (l : List UInt8) (b : UInt8) : showL (l ++ [b]) = showL l ++ enc (sg (b.toNat : Int)).toNat := by simp [showL, sgN]
theorem showL_cons (b : UInt8) (l : List UInt8) : showL (b :: l) = enc (sgN b) ++ showL l := by simp [showL]
theorem showL_len (l : List UInt8) : (showL l).length ≤ 2 * l.length := by
  induction l with
  | nil => simp [showL]
  | cons b l ih =>
    rw [showL_cons, List.length_append, List.length_cons]
    have := enc_len (sgN b)
    omega
theorem take_snoc (s : ByteArray) (k : Nat) (h : k < s.size) : s.data.toList.take (k + 1) = s.data.toList.take k ++ [s[k]] := by
  rw [List.take_succ_eq_append_getElem (by simpa using h)]; rfl
theorem take_len (s : ByteArray) (k : Nat) (h : k ≤ s.size) : (s.data.toList.take k).length = k := by
  rw [List.length_take, Array.length_toList]; exact Nat.min_eq_left h
theorem take_all (s : ByteArray) (k : Nat) (h : s.size ≤ k) : s.data.toList.take k = s.data.toList := List.take_of_length_le (by simpa using h)
theorem show_step {s : ByteArray} {k : Nat} (hlt : k < s.size) {w : World} {base : Nat} {v : Value} (h : ownB w base 5 v (showL (s.data.toList.take k) ++ enc (sg (s[k].toNat : Int)).toNat)) :
    ownB w base 5 v (showL (s.data.toList.take (k + 1))) := by
  rw [take_snoc s k hlt, showL_snoc]; exact h

set_option maxHeartbeats 400000 in
theorem show_any (s : ByteArray) (w : World) (hs : s.size ≤ 1048576) :
    Calls Try.prog 11 #[.string s] w fun e w' => e = .returned (.string ⟨(showL s.data.toList).toArray⟩) ∧ Below w.heap.size w w' := by
  obtain ⟨i0, hi, hz0, hz1, hz2⟩ := info_parts Try.info5
  go_enter Try.func11, Try.ntmps11
  go_wp2_with (at_make; refine wpList_make_own _ rfl _ _ 35 rfl w.heap.size 5 i0 (.int .u8 0) 1 Try.underlying35 hi hz0 hz1 .i64 .i64 _ (2 * s.size) rfl rfl (by omega) (by rw [hz2]; omega) (by unfold maxLen; omega) (Nat.le_refl _) ?_; intro w1 hown hgr)
  go_loopw [3, 11] (fun v i wr => ∃ k : Nat, k ≤ s.size ∧ i = .int .i64 k ∧ ownB wr w.heap.size 5 v (showL (s.data.toList.take k)) ∧ Below w.heap.size w wr)
     (fun _ i _ => s.size - (intOf i).toNat)
  case atStart => exact ⟨0, Nat.zero_le _, rfl, hown, (Below.refl _ _).grown hgr (Nat.le_refl _) (by simp)⟩
  case round =>
    obtain ⟨k, hk, rfl, hownr, hbel⟩ := hrel
    have hl : (showL (s.data.toList.take k)).length ≤ 2097152 := by have := showL_len (s.data.toList.take k); rw [take_len s k hk] at this; omega
    by_cases hlt : k < s.size
    · have hb : (s[k].toNat : Int) ≤ 255 := by have := s[k].toNat_lt; omega
      have hb0 : 0 ≤ (s[k].toNat : Int) := by omega
      have hg := sg_bd hb0 hb
      have hsz := hbel.size
      go_wp2_with (first | (go_at_call 9; refine (sign_any _ _ hb0 hb).mono ?_; rintro e w' ⟨rfl, rfl⟩) | (go_at_call 17; refine (rune_any _ (by omega) (by omega) _ w.heap.size _ _ hsz hl hownr).mono ?_; rintro e w' ⟨v', rfl, hO, hB⟩))
      go_roundw
      case rel => exact ⟨k + 1, by omega, by go_num, show_step hlt hO, hbel.trans hB⟩
      case measure => simp [intOf]; omega
    · have hc := hownr.text (P := Try.prog) 35 9 Try.underlying35 Try.underlying5 Try.underlying9
      go_wp2
      go_ret
      exact ⟨ret_text (by rw [take_all s k (by omega)]), hbel⟩
end Go.Proofs.Ytkiicmfdhnlgoaa
