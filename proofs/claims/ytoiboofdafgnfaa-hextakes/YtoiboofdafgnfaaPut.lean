/- The contract of hex.Put. -/
import Derived.Test.YtoiboofdafgnfaaDigit
import Derived.Test.YtoiboofdafgnfaaBytes
import Derived.Deep.RegionLaw
import Derived.Laws.BitsLemmas
namespace Go.Proofs.Ytoiboofdafgnfaa
open Go.RowKit

def hexc (n : Nat) : UInt8 := ([48, 49, 50, 51, 52, 53, 54, 55, 56, 57, 97, 98, 99, 100, 101, 102] : List UInt8).getD n 0
def putL (l : List UInt8) : List UInt8 := l.flatMap fun b => [hexc (b.toNat / 16), hexc (b.toNat % 16)]

theorem putL_snoc (l : List UInt8) (b : UInt8) : putL (l ++ [b]) = putL l ++ [hexc (b.toNat / 16), hexc (b.toNat % 16)] := by simp [putL]
theorem putL_len (l : List UInt8) : (putL l).length = 2 * l.length := by
  induction l with
  | nil => rfl
  | cons b l ih =>
    have : putL (b :: l) = [hexc (b.toNat / 16), hexc (b.toNat % 16)] ++ putL l := by simp [putL]
    rw [this]; simp [ih]; omega
theorem take_snoc (s : ByteArray) (k : Nat) (h : k < s.size) : s.data.toList.take (k + 1) = s.data.toList.take k ++ [s[k]] := by
  rw [List.take_succ_eq_append_getElem (by simpa using h)]; rfl
theorem take_len (s : ByteArray) (k : Nat) (h : k ≤ s.size) : (s.data.toList.take k).length = k := by
  rw [List.length_take, Array.length_toList]; exact Nat.min_eq_left h
theorem hexc_ix : ∀ n : Nat, ∀ h : n < 16, (ByteArray.mk #[48, 49, 50, 51, 52, 53, 54, 55, 56, 57, 97, 98, 99, 100, 101, 102])[n]'h = hexc n := by
  decide
theorem hexc_int (x : Int) (m : Nat) (hx : x = m) (h : x.toNat < 16) : (((ByteArray.mk #[48, 49, 50, 51, 52, 53, 54, 55, 56, 57, 97, 98, 99, 100, 101, 102])[x.toNat]'h).toNat : Int) = ((hexc m).toNat : Int) := by
  subst hx; rw [hexc_ix _ h]; simp

theorem put_step {s : ByteArray} {k : Nat} (hlt : k < s.size) {w2 : World} {base : Nat} {v : Value}
    {h1 : ((s[k].toNat : Int) / 16).toNat < 16} {h2 : ((s[k].toNat : Int) % 16).toNat < 16}
    (h : w2.ownsRow base 5 1 v ((putL (s.data.toList.take k)).length + 2) (bcells (putL (s.data.toList.take k)) ++
      [.int .u8 (((ByteArray.mk #[48, 49, 50, 51, 52, 53, 54, 55, 56, 57, 97, 98, 99, 100, 101, 102])[((s[k].toNat : Int) / 16).toNat]'h1).toNat : Int),
       .int .u8 (((ByteArray.mk #[48, 49, 50, 51, 52, 53, 54, 55, 56, 57, 97, 98, 99, 100, 101, 102])[((s[k].toNat : Int) % 16).toNat]'h2).toNat : Int)])) :
    ownB w2 base 5 v (putL (s.data.toList.take (k + 1))) := by
  unfold ownB
  rw [take_snoc s k hlt, putL_snoc, bcells_append, List.length_append]
  rw [hexc_int _ (s[k].toNat / 16) (by omega), hexc_int _ (s[k].toNat % 16) (by omega)] at h
  exact h
theorem put_all (s : ByteArray) (k : Nat) (h : s.size ≤ k) : s.data.toList.take k = s.data.toList := List.take_of_length_le (by simpa using h)

theorem Try.info5 : (Try.prog.info? 5).map (fun i => (i.zero, i.size, i.bytes)) = some (some (.int .u8 0), 1, 1) := by kernel_rfl

set_option maxHeartbeats 400000 in
theorem put_any (s : ByteArray) (w : World) (hs : s.size ≤ 1048576) :
    Calls Try.prog 7 #[.string s] w fun e w' => e = .returned (.string ⟨(putL s.data.toList).toArray⟩) ∧ Below w.heap.size w w' := by
  obtain ⟨i0, hi, hz0, hz1, hz2⟩ := info_parts Try.info5
  go_enter Try.func7, Try.ntmps7
  go_wp2_with (at_make; refine wpList_make_own _ rfl _ _ 31 rfl w.heap.size 5 i0 (.int .u8 0) 1 Try.underlying31 hi hz0 hz1 .i64 .i64 _ (2 * s.size) rfl rfl (by omega) (by rw [hz2]; omega) (by unfold maxLen; omega) (Nat.le_refl _) ?_; intro w1 hown hgr)
  go_loopw [3, 11] (fun v i wr => ∃ k : Nat, k ≤ s.size ∧ i = .int .i64 k ∧ ownB wr w.heap.size 5 v (putL (s.data.toList.take k)) ∧ Below w.heap.size w wr)
     (fun _ i _ => s.size - (intOf i).toNat)
  case atStart => exact ⟨0, Nat.zero_le _, rfl, hown, (Below.refl _ _).grown hgr (Nat.le_refl _) (by simp)⟩
  case round =>
    obtain ⟨k, hk, rfl, hownr, hbel⟩ := hrel
    have hl : (putL (s.data.toList.take k)).length ≤ 2097152 := by rw [putL_len, take_len s k hk]; omega
    by_cases hlt : k < s.size
    · have hb : (s[k].toNat : Int) < 256 := by have := s[k].toNat_lt; omega
      have h15 := u8_and15 (s[k].toNat : Int) (by omega) hb
      have d0 : (0 : Int) ≤ (s[k].toNat : Int) / 16 := by omega
      have d1 : (s[k].toNat : Int) / 16 < 16 := by omega
      have m0 : (0 : Int) ≤ (s[k].toNat : Int) % 16 := by omega
      have m1 : (s[k].toNat : Int) % 16 < 16 := by omega
      have hsz := hbel.size
      go_wp2
      go_region_law (refine step_append_lies _ rfl (.tmp 14) (.tmp 25) 31 rfl w.heap.size 5 i0 (.int .u8 0) 1 1 Try.underlying31 hi hz0 hz1 hz2 rfl (by decide) _ _ (bcells (putL (s.data.toList.take k))) rfl (World.ownsRow.alloc (World.ownsRow.drew hownr) _) ⟨wr.heap.size, 0, none⟩ 2 2 [_, _] rfl rfl (cell_two_new _ _ _ _) (by intro u hu; simp at hu; rcases hu with rfl | rfl <;> rfl) (by decide) (by unfold maxLen; omega) (by omega) (by simp; omega) _ rfl ?_; intro g cap w2 hown2 hgr2 hat2 hlt2)
      all_goals
        have hB := below_step hownr (Nat.le_refl _) hbel hsz hgr2
        have hO := put_step hlt hown2
        clear hown2 hgr2 hownr hbel hat2 hlt2
        go_wp2
        go_roundw
        case rel => exact ⟨k + 1, by omega, by go_num, hO, hB⟩
        case measure => simp [intOf]; omega
    · have hc := hownr.text (P := Try.prog) 31 9 Try.underlying31 Try.underlying5 Try.underlying9
      go_wp2
      go_ret
      exact ⟨ret_text (by rw [put_all s k (by omega)]), hbel⟩
end Go.Proofs.Ytoiboofdafgnfaa
