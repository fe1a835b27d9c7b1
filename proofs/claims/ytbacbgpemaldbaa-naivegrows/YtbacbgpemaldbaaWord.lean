/- pairPlaces and checkWord of layer 8; Positions and the document's. -/
import Derived.Test.YtbacbgpemaldbaaTab
import Derived.Test.YtbacbgpemaldbaaSame
namespace Go.Proofs.Ytbacbgpemaldbaa
open Go.RowKit

set_option maxRecDepth 100000 in
theorem room_any (s : ByteArray) (w : World) (hs : s.size ≤ 9223372036854775807) : Calls Try.prog 32 #[.string s] w fun e w' => e = .returned (.int .i64 (roomOf s)) ∧ w' = w := by
  by_cases h : 0 < s.size
  · have h1 : ¬ ((s.size : Int) - 1 < 0) := by omega
    have e : roomOf s = (s.size : Int) - 1 := by unfold roomOf; omega
    rw [e]
    go_enter Try.func32, Try.ntmps32
    go_wp2
    go_ret
    exact ⟨rfl, rfl⟩
  · have h1 : (s.size : Int) - 1 < 0 := by omega
    have e : roomOf s = 0 := by unfold roomOf; omega
    rw [e]
    go_enter Try.func32, Try.ntmps32
    go_wp2
    go_ret
    exact ⟨rfl, rfl⟩
set_option maxRecDepth 100000 in
theorem word_any (s : ByteArray) (c : Int) (w : World) (hs : s.size ≤ 9223372036854775807) :
    Calls Try.prog 27 #[.agg #[.string s, .int .i64 c]] w fun e w' => e = .returned (.int .i64 (wrongW s c)) ∧ Below w.heap.size w w' := by
  by_cases h0 : s.size = 0
  · have e : wrongW s c = 1 := if_pos (.inl h0)
    obtain rfl : s = ⟨#[]⟩ := ByteArray.ext (Array.eq_empty_of_size_eq_zero h0)
    rw [e]
    go_enter Try.func27, Try.ntmps27
    go_wp2
    go_ret
    exact ⟨rfl, (Below.refl _ w).alloc (Nat.le_refl _) _⟩
  · have hne : s.toList.isEmpty = false := some_text fun e => h0 (by rw [← bs_size]; exact congrArg List.length e)
    by_cases hc : c < 1
    · have e : wrongW s c = 1 := if_pos (.inr hc)
      rw [e]
      go_enter Try.func27, Try.ntmps27
      go_wp2
      go_ret
      exact ⟨rfl, (Below.refl _ w).alloc (Nat.le_refl _) _⟩
    · by_cases hl : 65536 < s.size
      · have e : wrongW s c = 4 := by unfold wrongW; rw [if_neg (by omega), if_pos hl]
        have hI : (65536 : Int) < (s.size : Int) := by omega
        rw [e]
        clear hl
        go_enter Try.func27, Try.ntmps27
        go_wp2
        go_ret
        exact ⟨rfl, (Below.refl _ w).alloc (Nat.le_refl _) _⟩
      · have e : wrongW s c = 0 := by unfold wrongW; rw [if_neg (by omega), if_neg hl]
        have hI : ¬ (65536 : Int) < (s.size : Int) := by omega
        rw [e]
        clear hl
        go_enter Try.func27, Try.ntmps27
        go_wp2
        go_ret
        exact ⟨rfl, (Below.refl _ w).alloc (Nat.le_refl _) _⟩
def PosRel (L : Bag) (w : World) (t i : Value) (wr : World) : Prop := ∃ k : Nat, i = .int .i64 (k : Int) ∧ t = .int .i64 (bytesOf (L.take k) : Int) ∧ k ≤ L.length ∧ Below w.heap.size w wr
set_option maxRecDepth 100000 in
theorem posRel_step {L : Bag} {w wr : World} {k n : Nat} (hk : k < L.length) (hn : n = bytesOf (L.take k)) (hb : Below w.heap.size w wr) : PosRel L w (.int .i64 ((n : Int) + (L[k].1.size : Int))) (.int .i64 ((k : Int) + 1)) wr :=
  ⟨k + 1, by simp, by rw [bytes_step hk, hn]; simp, hk, hb⟩
def RposRel (L : Bag) (w : World) (t i : Value) (wr : World) : Prop := ∃ k : Nat, i = .int .i64 (k : Int) ∧ t = .int .i64 (bytesOf (L.take k) : Int) ∧ k ≤ L.length ∧ wr = w
set_option maxRecDepth 100000 in
theorem rposRel_step {L : Bag} {w : World} {k n : Nat} (hk : k < L.length) (hn : n = bytesOf (L.take k)) : RposRel L w (.int .i64 ((n : Int) + (L[k].1.size : Int))) (.int .i64 ((k : Int) + 1)) w :=
  ⟨k + 1, by simp, by rw [bytes_step hk, hn]; simp, hk, rfl⟩
set_option maxRecDepth 100000 in
set_option maxHeartbeats 1000000 in
theorem refPositions_any (v : Value) (L : Bag) (w : World) (hv : wordsAt w v L) (hL : L.length ≤ 9223372036854775807) (hP : bytesOf L ≤ 9223372036854775807) :
    Calls Try.prog 18 #[v] w fun e w' => e = .returned (.int .i64 (bytesOf L : Int)) ∧ w' = w := by
  obtain ⟨a, cap, rfl, hc⟩ := hv
  have HC := Lib.hid hc
  clear hc
  go_enter Try.func18, Try.ntmps18
  go_wp2
  go_loopw [3, 4] (fun t i wr => RposRel L w t i wr) (fun _ i _ => L.length + 1 - (intOf i).toNat)
  case atStart => exact ⟨0, rfl, rfl, by omega, rfl⟩
  case round =>
    obtain ⟨k, rfl, rfl, hk, rfl⟩ := hrel
    by_cases hgo : k < L.length
    · have hkI : (k : Int) < (L.length : Int) := by omega
      obtain ⟨ad, rfl, _, c0, c1⟩ := HC.out k hgo
      have h1 := bytes_le L (k + 1)
      rw [bytes_step hgo] at h1
      obtain ⟨n, hn⟩ : ∃ n, n = bytesOf (L.take k) := ⟨_, rfl⟩
      rw [← hn] at h1 ⊢
      have HN := Lib.hid hn
      clear hn
      have h2 : (n : Int) + (L[k].1.size : Int) ≤ 9223372036854775807 := by omega
      go_wp2
      go_roundw
      case rel => exact rposRel_step hgo HN.out
      case measure => simp [intOf]; omega
    · have hkI : ¬ (k : Int) < (L.length : Int) := by omega
      have e : bytesOf (L.take k) = bytesOf L := by rw [List.take_of_length_le (by omega)]
      go_wp2
      go_ret
      exact ⟨rfl, rfl⟩
end Go.Proofs.Ytbacbgpemaldbaa
