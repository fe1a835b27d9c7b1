/- The document's Check of layer 8. -/
import Derived.Test.YtbacbgpemaldbaaRefWeight
namespace Go.Proofs.Ytbacbgpemaldbaa
open Go.RowKit

def RcheckRel (L : Bag) (w : World) (i : Value) (wr : World) : Prop :=
  ∃ k : Nat, i = .int .i64 (k : Int) ∧ k ≤ L.length ∧ checkFrom 0 none L = checkFrom k (before L k) (L.drop k) ∧ ∃ n, wr = w.drewN n
set_option maxRecDepth 100000 in
theorem rcheckRel_step {L : Bag} {w wr : World} {k : Nat} (hk : k < L.length) (hc : checkFrom 0 none L = checkFrom k (before L k) (L.drop k)) (h : wrongBy (before L k) L[k] = 0) (hb : ∃ n, wr = w.drewN n) : RcheckRel L w (.int .i64 ((k : Int) + 1)) wr :=
  ⟨k + 1, by simp, hk, hc.trans (check_next hk h), hb⟩
set_option maxRecDepth 100000 in
set_option maxHeartbeats 2000000 in
theorem refCheck_any (v : Value) (L : Bag) (w : World) (hv : wordsAt w v L) (hL : L.length ≤ 1000000) (hf : Fits L) :
    Calls Try.prog 21 #[v] w fun e w' => e = .returned (.tuple #[.int .i64 (checkOf L).1, .int .i64 (checkOf L).2]) ∧ ∃ n, w' = w.drewN n := by
  have HV := Lib.hid hv
  obtain ⟨a, cap, rfl, hc⟩ := hv
  have HC := Lib.hid hc
  clear hc
  go_enter Try.func21, Try.ntmps21
  go_wp2
  go_loopw [4] (fun i wr => RcheckRel L w i wr) (fun i _ => L.length + 1 - (intOf i).toNat)
  case atStart => exact ⟨0, rfl, by omega, rfl, 0, rfl⟩
  case round =>
    obtain ⟨k, rfl, hk, hck, n, hw⟩ := hrel
    have HW := Lib.hid hw; have HK := Lib.hid hck
    clear hw hck
    by_cases hgo : k < L.length
    · have hkI : (k : Int) < (L.length : Int) := by omega
      obtain ⟨ad, rfl, _, c0, c1⟩ := HC.out k hgo
      replace c0 : wr.cell? (ad.add (k * 2)) = some (.string L[k].1) := by rw [HW.out]; exact c0
      replace c1 : wr.cell? ⟨(ad.add (k * 2)).block, (ad.add (k * 2)).off + 1, none⟩ = some (.int .i64 L[k].2) := by rw [HW.out]; exact c1
      have hT := (hf.at hgo).1
      obtain ⟨⟨t, tc⟩, ht⟩ : ∃ p, L[k] = p := ⟨_, rfl⟩
      rw [ht] at c0 c1 hT
      have HE := Lib.hid ht
      clear ht
      replace hT : t.size ≤ 9223372036854775807 := hT
      by_cases h0 : t.size = 0 ∨ tc < 1
      · have hz : wrongW t tc = 1 := if_pos h0
        have HS := Lib.hid (check_stop (z := 1) hgo HK.out (wrong_self (by rw [HE.out]; exact hz) (by decide)) (by decide))
        clear hz
        by_cases ht0 : t.size = 0
        · obtain rfl : t = ⟨#[]⟩ := ByteArray.ext (Array.eq_empty_of_size_eq_zero ht0)
          go_wp2
          go_ret2
          rw [HS.out]
          exact ⟨rfl, n, HW.out⟩
        · have htc : tc < 1 := h0.resolve_left ht0
          have hne : t.toList.isEmpty = false := some_text fun e => ht0 (by rw [← bs_size]; exact congrArg List.length e)
          go_wp2
          go_ret2
          rw [HS.out]
          exact ⟨rfl, n, HW.out⟩
      · have ht0 : t.size ≠ 0 := fun e => h0 (.inl e)
        have htc : ¬ tc < 1 := fun e => h0 (.inr e)
        have hne : t.toList.isEmpty = false := some_text fun e => ht0 (by rw [← bs_size]; exact congrArg List.length e)
        by_cases hl : 65536 < t.size
        · have hz : wrongW t tc = 4 := by unfold wrongW; rw [if_neg h0, if_pos hl]
          have HS := Lib.hid (check_stop (z := 4) hgo HK.out (wrong_self (by rw [HE.out]; exact hz) (by decide)) (by decide))
          have hlI : (65536 : Int) < (t.size : Int) := by omega
          clear hz hl h0
          go_wp2
          go_ret2
          rw [HS.out]
          exact ⟨rfl, n, HW.out⟩
        · have HZ2 : Hid (wrongW L[k].1 L[k].2 = 0) := Lib.hid (by rw [HE.out]; unfold wrongW; rw [if_neg h0, if_neg hl])
          have hlI : ¬ (65536 : Int) < (t.size : Int) := by omega
          clear hl h0
          by_cases hk0 : 0 < k
          · have hd : decide (0 < k) = true := decide_eq_true hk0
            obtain ⟨j, hj⟩ : ∃ j, j + 1 = k := ⟨k - 1, by omega⟩
            have hjI : (k : Int) - 1 = (j : Int) := by omega
            have hjL : j < L.length := by omega
            have hwj : IntKind.i64.wrap (j : Int) = (j : Int) := IntWalk.i64_in _ (by omega)
            have hjl : (j : Int) < (L.length : Int) := by omega
            obtain ⟨ad', e', _, y0, y1⟩ := HC.out j hjL
            cases e'
            replace y0 : wr.cell? (ad.add (j * 2)) = some (.string L[j].1) := by rw [HW.out]; exact y0
            have hU := (hf.at hjL).1
            obtain ⟨⟨u, uc⟩, hu⟩ : ∃ p, L[j] = p := ⟨_, rfl⟩
            rw [hu] at y0 hU
            have HU := Lib.hid hu
            have HJ := Lib.hid hj
            clear hu hj hk0 y1
            have cL := fun w => less_any u t w hU hT
            cases ha : ahead u t with
            | true =>
              rw [ha] at cL
              have HN : Hid (wrongBy (before L k) L[k] = 0) := Lib.hid (wrong_less HJ.out hjL HZ2.out (by rw [HU.out, HE.out]; exact ha))
              clear ha
              go_wp2
              go_quiet ((go_at_call 26; exact Calls.quiet_of (cL _)))
              go_wp2
              go_roundw
              case rel => exact rcheckRel_step hgo HK.out HN.out (drawn_more HW.out _)
              case measure => simp [intOf]; omega
            | false =>
              rw [ha] at cL
              have HN : Hid (wrongBy (before L k) L[k] = 6) := Lib.hid (wrong_more HJ.out hjL HZ2.out (by rw [HU.out, HE.out]; exact ha))
              have HS := Lib.hid (check_stop hgo HK.out HN.out (by decide))
              clear ha
              go_wp2
              go_quiet ((go_at_call 26; exact Calls.quiet_of (cL _)))
              go_wp2
              go_ret2
              rw [HS.out]
              exact ⟨rfl, drawn_more HW.out _⟩
          · have hd : decide (0 < k) = false := decide_eq_false hk0
            have HN : Hid (wrongBy (before L k) L[k] = 0) := Lib.hid (by
              obtain rfl : k = 0 := by omega
              exact wrong_first HZ2.out L)
            clear hk0
            go_wp2
            go_quiet (fail)
            go_wp2
            go_roundw
            case rel => exact rcheckRel_step hgo HK.out HN.out (drawn_more HW.out _)
            case measure => simp [intOf]; omega
    · have hkI : ¬ (k : Int) < (L.length : Int) := by omega
      have HV2 : Hid (wordsAt wr (.slice a L.length cap) L) := Lib.hid (by rw [HW.out]; exact HV.out.drew n)
      have HS := Lib.hid (check_end (by omega) HK.out)
      have cW := refWeight_any _ L wr HV2.out (by omega) hf
      obtain ⟨⟨q, b⟩, hq⟩ : ∃ r, weighOf L = r := ⟨_, rfl⟩
      rw [hq] at cW HS
      clear hq
      go_wp2_with fail
      refine cW.mono ?_
      rintro e w2 ⟨rfl, m, hw2⟩
      have HB2 : Hid (∃ n, w2 = w.drewN n) := Lib.hid (by rw [hw2]; exact drawn_more HW.out m)
      clear hw2
      cases b with
      | true =>
        go_wp2
        go_ret2
        rw [HS.out]
        exact ⟨rfl, HB2.out⟩
      | false =>
        go_wp2
        go_ret2
        rw [HS.out]
        exact ⟨rfl, HB2.out⟩
end Go.Proofs.Ytbacbgpemaldbaa
