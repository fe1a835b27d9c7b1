/- The document's Weight of layer 8. -/
import Derived.Test.YtbacbgpemaldbaaWeight
import Derived.Deep.RegionHeld3
namespace Go.Proofs.Ytbacbgpemaldbaa
open Go.RowKit

set_option maxRecDepth 100000 in
theorem room_at {L : Bag} {k : Nat} (hk : k < L.length) : (countsOf L)[k]'(by rw [counts_len]; exact hk) = L[k].2 ∧ (roomsOf L)[k]'(by rw [rooms_len]; exact hk) = roomOf L[k].1 := by
  simp [countsOf, roomsOf]
set_option maxRecDepth 100000 in
set_option maxHeartbeats 1000000 in
theorem refWeight_any (v : Value) (L : Bag) (w : World) (hv : wordsAt w v L) (hL : L.length ≤ 9223372036854775807) (hf : Fits L) :
    Calls Try.prog 30 #[v] w fun e w' => e = .returned (.tuple #[.int .i64 (weighOf L).1, .bool (weighOf L).2]) ∧ ∃ n, w' = w.drewN n := by
  obtain ⟨a, cap, rfl, hc⟩ := hv
  have HC := Lib.hid hc
  clear hc
  unfold weighOf
  go_enter Try.func30, Try.ntmps30
  go_wp2
  go_loopw [4, 5] (fun t i wr => DotRel (countsOf L) (roomsOf L) w t i wr) (fun _ i _ => L.length + 1 - (intOf i).toNat)
  case atStart => exact ⟨0, 0, rfl, rfl, by omega, by decide, by decide, rfl, 0, rfl⟩
  case round =>
    obtain ⟨k, s, rfl, rfl, hk, hs0, hs1, he, n, hwr⟩ := hrel
    rw [counts_len] at hk
    have HE := Lib.hid he; have HW := Lib.hid hwr
    clear he hwr
    by_cases hgo : k < L.length
    · have hkI : (k : Int) < (L.length : Int) := by omega
      have hg1 : k < (countsOf L).length := by rw [counts_len]; exact hgo
      have hg2 : k < (roomsOf L).length := by rw [rooms_len]; exact hgo
      obtain ⟨ad, rfl, hba, c0, c1⟩ := HC.out k hgo
      obtain ⟨z0, z1, z2⟩ := hf.at hgo
      have y0 : 0 ≤ roomOf L[k].1 := by unfold roomOf; omega
      have y1 : roomOf L[k].1 ≤ 9223372036854775807 := by unfold roomOf; omega
      have cM := fun w => refMul_any L[k].2 (roomOf L[k].1) w z1 z2 (by omega) y1
      obtain ⟨⟨p, bp⟩, hp⟩ : ∃ r, mulOf L[k].2 (roomOf L[k].1) = r := ⟨_, rfl⟩
      have hpi := mulOf_in L[k].2 (roomOf L[k].1)
      rw [hp] at cM hpi
      have cA := fun w => refAdd_any s p w (by omega) (by omega) (by have := hpi.1; simp only at this; omega) hpi.2
      obtain ⟨⟨q, bq⟩, hq⟩ : ∃ r, addOf s p = r := ⟨_, rfl⟩
      rw [hq] at cA
      have hp' : mulOf (countsOf L)[k] (roomsOf L)[k] = (p, bp) := by rw [(room_at hgo).1, (room_at hgo).2]; exact hp
      have HP := Lib.hid hp'; have HQ := Lib.hid hq
      have HN := Lib.hid (dot_next hg1 hg2 HE.out hp')
      clear hp hq hp' y0 y1
      replace c0 : wr.cell? (ad.add (k * 2)) = some (.string L[k].1) := by rw [HW.out]; exact c0
      replace c1 : wr.cell? ⟨(ad.add (k * 2)).block, (ad.add (k * 2)).off + 1, none⟩ = some (.int .i64 L[k].2) := by rw [HW.out]; exact c1
      by_cases hsz : 1 < L[k].1.size
      case' pos =>
        have er : roomOf L[k].1 = (L[k].1.size : Int) - 1 := by unfold roomOf; omega
        rw [er] at cM
        have hm1 : (1 : Int) < (L[k].1.size : Int) := by omega
        clear hsz
      case' neg =>
        have er : roomOf L[k].1 = 0 := by unfold roomOf; omega
        rw [er] at cM
        have hm1 : ¬ (1 : Int) < (L[k].1.size : Int) := by omega
        clear hsz
      all_goals
        clear er
        cases bp with
        | false =>
          have hst : dotFrom 0 (countsOf L) (roomsOf L) = (0, false) := HN.out
          go_wp2
          go_quiet ((go_at_call 34; exact Calls.quiet_of_same (cM _)))
          go_wp2
          go_ret2
          rw [hst]
          exact ⟨rfl, drawn_more HW.out _⟩
        | true =>
          cases bq with
          | false =>
            have hst : dotFrom 0 (countsOf L) (roomsOf L) = (0, false) := by rw [HN.out, HQ.out]; rfl
            go_wp2
            go_quiet ((go_at_call 34; exact Calls.quiet_of_same (cM _)))
            go_wp2_with (go_at_call 35; refine (cA _).mono ?_; rintro e w1 ⟨rfl, rfl⟩)
            go_ret2
            rw [hst]
            exact ⟨rfl, drawn_more HW.out _⟩
          | true =>
            go_wp2
            go_quiet ((go_at_call 34; exact Calls.quiet_of_same (cM _)))
            go_wp2_with (go_at_call 35; refine (cA _).mono ?_; rintro e w1 ⟨rfl, rfl⟩)
            go_roundw
            case rel => exact dotRel_step hg1 hg2 HE.out HP.out HQ.out (drawn_more HW.out _)
            case measure => simp [intOf]; omega
    · have hkI : ¬ (k : Int) < (L.length : Int) := by omega
      have hst : dotFrom 0 (countsOf L) (roomsOf L) = (s, true) := by rw [HE.out, List.drop_of_length_le (by rw [counts_len]; omega), List.drop_of_length_le (by rw [rooms_len]; omega)]; rfl
      go_wp2
      go_ret2
      exact ⟨rfl, n, HW.out⟩
end Go.Proofs.Ytbacbgpemaldbaa
