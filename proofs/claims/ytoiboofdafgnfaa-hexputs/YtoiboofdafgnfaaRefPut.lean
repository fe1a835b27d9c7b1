/- The contract of gluepotref01.Put. -/
import Derived.Test.YtoiboofdafgnfaaPut
import Derived.Deep.QuietTactic
import Derived.BigQuiet
namespace Go.Proofs.Ytoiboofdafgnfaa
open Go.RowKit

theorem hexc_cut : ∀ n : Nat, n < 16 → (ByteArray.mk #[48, 49, 50, 51, 52, 53, 54, 55, 56, 57, 97, 98, 99, 100, 101, 102]).extract n (n + 1) = ⟨#[hexc n]⟩ := by
  decide
theorem refput_step {s : ByteArray} {k : Nat} (hlt : k < s.size) :
    Value.string (⟨(putL (s.data.toList.take k)).toArray⟩ ++ (ByteArray.mk #[48, 49, 50, 51, 52, 53, 54, 55, 56, 57, 97, 98, 99, 100, 101, 102]).extract (s[k].toNat / 16) (s[k].toNat / 16 + 1) ++
      (ByteArray.mk #[48, 49, 50, 51, 52, 53, 54, 55, 56, 57, 97, 98, 99, 100, 101, 102]).extract (s[k].toNat % 16) (s[k].toNat % 16 + 1)) = .string ⟨(putL (s.data.toList.take (k + 1))).toArray⟩ := by
  have := s[k].toNat_lt
  rw [hexc_cut _ (by omega), hexc_cut _ (by omega), take_snoc s k hlt, putL_snoc]
  congr 1
  apply ByteArray.ext
  simp [ByteArray.data_append]

set_option maxHeartbeats 400000 in
theorem refPut_any (s : ByteArray) (w : World) (hs : s.size ≤ 1048576) :
    Calls Try.prog 9 #[.string s] w fun e w' => e = .returned (.string ⟨(putL s.data.toList).toArray⟩) ∧ ∃ n, w' = w.drewN n := by
  go_enter Try.func9, Try.ntmps9
  go_wp2
  go_loopw [4, 5] (fun h i wr => ∃ k : Nat, k ≤ s.size ∧ i = .int .i64 k ∧ h = .string ⟨(putL (s.data.toList.take k)).toArray⟩ ∧ ∃ n, wr = w.drewN n)
     (fun _ i _ => s.size - (intOf i).toNat)
  case atStart => exact ⟨0, Nat.zero_le _, rfl, rfl, 0, rfl⟩
  case round =>
    obtain ⟨k, hk, rfl, rfl, nd, rfl⟩ := hrel
    have hl : (putL (s.data.toList.take k)).length ≤ 2097152 := by rw [putL_len, take_len s k hk]; omega
    by_cases hlt : k < s.size
    · have hb : (s[k].toNat : Int) < 256 := by have := s[k].toNat_lt; omega
      have d0 : (0 : Int) ≤ (s[k].toNat : Int) / 16 := by omega
      have d1 : (s[k].toNat : Int) / 16 < 16 := by omega
      have m0 : (0 : Int) ≤ (s[k].toNat : Int) % 16 := by omega
      have m1 : (s[k].toNat : Int) % 16 < 16 := by omega
      go_wp2
      go_quiet (fail)
      go_wp2
      go_roundw
      case rel => exact ⟨k + 1, by omega, by go_num, refput_step hlt, _, rfl⟩
      case measure => simp [intOf]; omega
    · go_wp2
      go_ret
      exact ⟨ret_text (by rw [put_all s k (by omega)]), _, rfl⟩
end Go.Proofs.Ytoiboofdafgnfaa
