/- gluepotref01.Less: a text is ahead of another one. -/
import Derived.Test.YtbnekkcjkdghcaaBag
import Derived.BigQuiet
namespace Go.Proofs.Ytbnekkcjkdghcaa
open Go.RowKit

set_option maxRecDepth 100000 in
theorem lbefore_skip : ∀ {a b : List UInt8} {k : Nat}, a.take k = b.take k → k ≤ a.length → k ≤ b.length → bytesBefore a b = bytesBefore (a.drop k) (b.drop k)
  | a, b, 0, _, _, _ => by simp
  | [], _, k + 1, _, h, _ => by simp at h
  | _, [], k + 1, _, _, h => by simp at h
  | x :: a, y :: b, k + 1, h, h1, h2 => by
    simp only [List.take_succ_cons, List.cons.injEq] at h
    obtain ⟨rfl, h⟩ := h
    rw [List.drop_succ_cons, List.drop_succ_cons, ← lbefore_skip h (by simpa using h1) (by simpa using h2)]
    simp [bytesBefore]
set_option maxRecDepth 100000 in
theorem ldrop_past (s : ByteArray) {k : Nat} (h : s.size ≤ k) : (bs s).drop k = [] := List.drop_eq_nil_of_le (by rw [bs_size]; exact h)
set_option maxRecDepth 100000 in
theorem ldrop_at (s : ByteArray) {k : Nat} (h : k < s.size) : (bs s).drop k = s[k] :: (bs s).drop (k + 1) := by
  have hk : k < (bs s).length := by rw [bs_size]; exact h
  rw [List.drop_eq_getElem_cons hk]
  rfl
def LtRel (a b : ByteArray) (w : World) (i : Value) (wr : World) : Prop := ∃ k m : Nat, i = .int .i64 (k : Int) ∧ k ≤ a.size ∧ k ≤ b.size ∧ (bs a).take k = (bs b).take k ∧ wr = w.drewN m
set_option maxRecDepth 100000 in
theorem ltRel_step {a b : ByteArray} {w wr : World} {k m : Nat} (ha : k < a.size) (hb : k < b.size) (ht : (bs a).take k = (bs b).take k) (h : a[k] = b[k]) (hw : wr = w.drewN m) (q : Nat) : LtRel a b w (.int .i64 ((k : Int) + 1)) (wr.drewN q) :=
  ⟨k + 1, m + q, by simp, ha, hb, by rw [take_snoc a k ha, take_snoc b k hb, ht, h], by rw [hw]; simp⟩
set_option maxRecDepth 100000 in
set_option maxHeartbeats 1000000 in
theorem ltext_any (a b : ByteArray) (w : World) (ha : a.size ≤ 9223372036854775807) (hb : b.size ≤ 9223372036854775807) :
    Calls Try.prog 57 #[.string a, .string b] w fun e w' => e = .returned (.bool (ahead a b)) ∧ ∃ n, w' = w.drewN n := by
  go_enter Try.func57, Try.ntmps57
  go_wp2
  go_loopw [5] (fun i wr => LtRel a b w i wr) (fun i _ => a.size + 1 - (intOf i).toNat)
  case atStart => exact ⟨0, 0, rfl, by omega, by omega, rfl, rfl⟩
  case round =>
    obtain ⟨k, m, rfl, hka, hkb, htk, hw⟩ := hrel
    have HW := Lib.hid hw
    have HT := Lib.hid htk
    clear hw htk
    by_cases h1 : k < a.size
    · by_cases h2 : k < b.size
      · have h1I : (k : Int) < (a.size : Int) := by omega
        have h2I : (k : Int) < (b.size : Int) := by omega
        have b1 : (a[k].toNat : Int) < 256 := by have := a[k].toNat_lt; omega
        have b2 : (b[k].toNat : Int) < 256 := by have := b[k].toNat_lt; omega
        by_cases he : (a[k].toNat : Int) = (b[k].toNat : Int)
        · have HE : Hid (a[k] = b[k]) := Lib.hid (UInt8.toNat_inj.1 (by omega))
          go_wp2
          go_quiet (fail)
          go_wp2
          go_roundw
          case rel => exact ltRel_step h1 h2 HT.out HE.out HW.out _
          case measure => simp [intOf]; omega
        · go_wp2
          go_quiet (fail)
          go_wp2
          go_quiet (fail)
          go_wp2
          go_ret
          refine ⟨retB ?_, _, by rw [HW.out]; simp only [World.drewN_drewN]; rfl⟩
          unfold ahead
          rw [lbefore_skip HT.out (by rw [bs_size]; omega) (by rw [bs_size]; omega), ldrop_at a h1, ldrop_at b h2]
          have hne : a[k] ≠ b[k] := fun e => he (by rw [e])
          simp [bytesBefore, hne, UInt8.lt_iff_toNat_lt]
      · have h1I : (k : Int) < (a.size : Int) := by omega
        have h2I : ¬ (k : Int) < (b.size : Int) := by omega
        go_wp2
        go_ret
        refine ⟨retB ?_, m, HW.out⟩
        have e : k = b.size := by omega
        unfold ahead
        rw [lbefore_skip HT.out (by rw [bs_size]; omega) (by rw [bs_size]; omega), ldrop_at a h1, ldrop_past b (k := k) (by omega)]
        simp [bytesBefore]; omega
    · have h1I : ¬ (k : Int) < (a.size : Int) := by omega
      go_wp2
      go_ret
      refine ⟨retB ?_, m, HW.out⟩
      unfold ahead
      rw [lbefore_skip HT.out (by rw [bs_size]; omega) (by rw [bs_size]; omega), ldrop_past a (k := k) (by omega)]
      by_cases h2 : k < b.size
      · rw [ldrop_at b h2]; simp [bytesBefore]; omega
      · rw [ldrop_past b (k := k) (by omega)]; simp [bytesBefore]; omega
end Go.Proofs.Ytbnekkcjkdghcaa
