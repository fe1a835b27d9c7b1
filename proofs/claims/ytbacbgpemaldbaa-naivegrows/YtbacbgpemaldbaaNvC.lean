/- The document's own Count, walked. -/
import Derived.Test.YtbacbgpemaldbaaNvR
namespace Go.Proofs.Ytbacbgpemaldbaa
open Go.RowKit

def CtRel (m : Mg) (WW : List (List ByteArray)) (C : List Int) (w1 : World) (s i : Value) (wr : World) : Prop :=
  ∃ k n : Nat, i = .int .i64 (k : Int) ∧ k ≤ WW.length ∧ s = .int .i64 (cntW m (WW.take k) (C.take k)) ∧ wr = w1.drewN n
def CtIn (m : Mg) (W : List ByteArray) (c b : Int) (w1 : World) (s i : Value) (wr : World) : Prop :=
  ∃ k n : Nat, i = .int .i64 (k : Int) ∧ k ≤ W.length ∧ s = .int .i64 (b + (cntT m (W.take (k + 1)) : Int) * c) ∧ wr = w1.drewN n
def CtRet (m : Mg) (WW : List (List ByteArray)) (C : List Int) (w : World) (e : Ending) (w' : World) : Prop := e = .returned (.int .i64 (cntW m WW C)) ∧ ∃ n, w' = (w.alloc (.cells #[.string m.1, .string m.2] 33)).drewN n
set_option maxRecDepth 100000 in
set_option maxHeartbeats 8000000 in
theorem rcount_nv (m : Mg) (x y : Value) (WW : List (List ByteArray)) (C : List Int) (w : World) (hx : rowsT w x WW) (hy : eltsAt intE w y C) (hl : WW.length ≤ 1000000) (hCl : C.length ≤ 9223372036854775807) (hln : ∀ W ∈ WW, W.length ≤ 1000000) (hcap : capW WW C ≤ 9223372036854775807) :
    Calls Try.prog 25 #[x, y, .agg #[.string m.1, .string m.2]] w fun e w' => CtRet m WW C w e w' := by
  obtain ⟨m1, m2⟩ := m
  obtain ⟨M, hM⟩ : ∃ M, w.heap.size = M := ⟨_, rfl⟩
  obtain ⟨w1, hw1⟩ : ∃ w1, w.alloc (.cells #[.string m1, .string m2] 33) = w1 := ⟨_, rfl⟩
  have hb1 : w1.heap[M]? = some (.cells #[.string m1, .string m2] 33 (0, 0)) := by rw [← hw1, ← hM]; exact heap_alloc_new w _
  have hbe : Below w.heap.size w w1 := by rw [← hw1]; exact (Below.refl _ w).alloc (Nat.le_refl _) _
  have m0 : w1.cell? ⟨M, 0, none⟩ = some (.string m1) := by rw [cell_of_row w1 M _ _ 33 (0, 0) hb1]; rfl
  have m0' : w1.cell? ⟨M, 1, none⟩ = some (.string m2) := by rw [cell_of_row w1 M _ _ 33 (0, 0) hb1]; rfl
  have hx1 := hx.below hbe
  have hy1 := hy.below hbe (Nat.le_refl _)
  obtain ⟨a, cx, rfl⟩ := hx.form
  obtain ⟨ay, cy, rfl, _⟩ := id hy
  obtain ⟨N, hN⟩ : ∃ N, WW.length = N := ⟨_, rfl⟩
  obtain ⟨NC, hNC⟩ : ∃ N, C.length = N := ⟨_, rfl⟩
  rw [hN] at hx1 ⊢
  rw [hNC] at hy1 ⊢
  have HX := Lib.hid hx1
  have HY := Lib.hid hy1
  have HN := Lib.hid hN
  have HNC := Lib.hid hNC
  have HLN := Lib.hid hln
  have HCAP := Lib.hid hcap
  have HW1 := Lib.hid hw1
  have hNl : N ≤ 1000000 := by omega
  have hNCl : NC ≤ 9223372036854775807 := by omega
  have HST : Hid (CtRel (m1, m2) WW C w1 (.int .i64 0) (.int .i64 0) w1) := Lib.hid ⟨0, 0, rfl, Nat.zero_le _, by simp [cntW], rfl⟩
  have HM0 : Hid (∀ n, (w1.drewN n).cell? ⟨M, 0, none⟩ = some (.string m1) ∧ (w1.drewN n).cell? ⟨M, 1, none⟩ = some (.string m2)) := Lib.hid fun n => ⟨m0, m0'⟩
  clear hx hx1 hy hy1 hbe hb1 hN hNC hln hcap m0 m0'
  go_enter Try.func25, Try.ntmps25
  go_wp2
  go_loopw [7, 8] (fun s i wr => CtRel (m1, m2) WW C w1 s i wr) (fun _ i _ => N - (intOf i).toNat)
  case atStart => exact HST.out
  case round =>
    clear HST hw1 hM
    obtain ⟨i, n, rfl, hi, rfl, hwr⟩ := hrel
    rw [HN.out] at hi
    obtain ⟨b, hb⟩ : ∃ b, cntW (m1, m2) (WW.take i) (C.take i) = b := ⟨_, rfl⟩
    have HB := Lib.hid hb
    rw [hb]
    have HWR := Lib.hid hwr
    clear hb
    have hbw : Below w1.heap.size w1 wr := by rw [hwr]; exact below_drewN' (Below.refl _ _) n
    have HBW := Lib.hid hbw
    clear hwr hbw
    by_cases hgo : i < N
    · have hgoI : (i : Int) < (N : Int) := by omega
      have hiW : i < WW.length := by rw [HN.out]; exact hgo
      by_cases hgc : i < NC
      · have hgcI : (i : Int) < (NC : Int) := by omega
        have hiC : i < C.length := by rw [HNC.out]; exact hgc
        obtain ⟨ay', rfl⟩ : ∃ ad, ay = some ad := by
          obtain ⟨_, _, e1, hc⟩ := HY.out
          obtain ⟨ad, e2, _⟩ := hc i hiC
          exact ⟨ad, (Value.slice.inj e1).1.trans e2⟩
        have hY' := HY.out
        rw [← HNC.out] at hY'
        have q0 := ints_cell hY' HBW.out hiC
        obtain ⟨c, hc⟩ : ∃ c, C[i] = c := ⟨_, rfl⟩
        rw [hc] at q0
        have hnext := cntW_next (m := (m1, m2)) hiW hiC
        have HMID : Hid (1 ≤ c → ∀ k, b + (cntT (m1, m2) (WW[i].take k) : Int) * c ≤ 9223372036854775807) := Lib.hid fun h1 k => by
          have := cntW_mid (m := (m1, m2)) hiW hiC (by rw [hc]; exact h1) k
          rw [hc, HB.out] at this
          have := HCAP.out
          omega
        have HB0 : Hid (0 ≤ b) := Lib.hid (by rw [← HB.out]; exact (cntW_le _ _ _).1)
        rw [hc, HB.out] at hnext
        have HNX := Lib.hid hnext
        have hwi : IntKind.i64.wrap ((i : Int) + 1) = (i : Int) + 1 := IntWalk.i64_in _ (by omega)
        clear hnext hY' hc
        by_cases hc1 : c < 1
        · have HNZ : Hid (cntW (m1, m2) (WW.take (i + 1)) (C.take (i + 1)) = b) := Lib.hid (by rw [HNX.out, if_neg (by omega)]; omega)
          go_wp2
          go_roundw
          case measure => simp [intOf]; omega
          case rel => exact ⟨i + 1, n, by simp, by rw [HN.out]; omega, by rw [HNZ.out], HWR.out⟩
        · have hX' := HX.out
          rw [← HN.out] at hX'
          obtain ⟨ad, ai, ci, rfl, r0, rE, rN⟩ := hX'.at HBW.out hiW
          have hlen := HLN.out _ (List.getElem_mem hiW)
          obtain ⟨W, hW⟩ : ∃ W, WW[i] = W := ⟨_, rfl⟩
          rw [hW] at r0 rE rN hlen HMID HNX
          obtain ⟨l, hl⟩ : ∃ l, W.length = l := ⟨_, rfl⟩
          rw [hl] at r0 rE rN
          have hl1 : l ≤ 1000000 := by omega
          have HE := Lib.hid rE
          have HL := Lib.hid hl
          obtain ⟨wo, hwo⟩ : ∃ wo, wo = wr := ⟨_, rfl⟩
          subst hwo
          have HIN : Hid (CtIn (m1, m2) W c b wo (.int .i64 b) (.int .i64 0) wo) := Lib.hid ⟨0, 0, rfl, Nat.zero_le _, by rw [cnt_take_one]; simp, rfl⟩
          have HCP : Hid (1 ≤ c) := Lib.hid (by omega)
          clear rE rN hl hW hX' hlen
          go_wp2
          go_loopw [7, 9] (fun s k wr => CtIn (m1, m2) W c b wo s k wr) (fun _ k _ => l - (intOf k).toNat)
          case atStart => exact HIN.out
          case round =>
            clear HIN
            obtain ⟨k, n2, rfl, hk, rfl, rfl⟩ := hrel
            have hW' := HE.out
            rw [← HL.out] at hW'
            obtain ⟨s, hs⟩ : ∃ s, b + (cntT (m1, m2) (W.take (k + 1)) : Int) * c = s := ⟨_, rfl⟩
            have HS := Lib.hid hs
            have HS2 : Hid (0 ≤ s ∧ s ≤ 9223372036854775807) := Lib.hid (by
              have h1 := HMID.out HCP.out (k + 1)
              have h2 : 0 ≤ (cntT (m1, m2) (W.take (k + 1)) : Int) * c := Int.mul_nonneg (by omega) (by have := HCP.out; omega)
              have := HB0.out
              omega)
            rw [hs]
            obtain ⟨j, hj⟩ : ∃ j : Nat, k + 1 = j := ⟨_, rfl⟩
            have HJK := Lib.hid hj
            have hwk : IntKind.i64.wrap ((k : Int) + 1) = (j : Int) := by rw [← hj]; exact IntWalk.i64_in _ (by rw [HL.out] at hk; omega)
            have hj0 : (0 : Int) ≤ (j : Int) := by omega
            have hk0 : (0 : Int) ≤ (k : Int) := by omega
            have hbn : Below w1.heap.size w1 (wo.drewN n2) := below_drewN' HBW.out n2
            obtain ⟨b0, b1⟩ : wo.cell? ⟨M, 0, none⟩ = some (.string m1) ∧ wo.cell? ⟨M, 1, none⟩ = some (.string m2) := by rw [HWR.out]; exact HM0.out n
            clear hs hj hbn
            by_cases hlast : j < l
            · have hlastI : (j : Int) < (l : Int) := by omega
              have hkI : (k : Int) < (l : Int) := by have := HJK.out; omega
              have hkW : k < W.length := by rw [HL.out]; have := HJK.out; omega
              have hkW1 : k + 1 < W.length := by rw [HL.out]; have := HJK.out; omega
              obtain ⟨ti, rfl, t0⟩ := text_in hW' (Below.refl _ _) hkW
              obtain ⟨_, e1, t1⟩ := text_in hW' (Below.refl _ _) hkW1
              cases e1
              obtain ⟨z, hz⟩ : ∃ z, W[k] = z := ⟨_, rfl⟩
              obtain ⟨y, hy⟩ : ∃ y, W[k + 1] = y := ⟨_, rfl⟩
              rw [hz] at t0
              rw [hy, HJK.out] at t1
              have hct := cnt_take (m := (m1, m2)) hkW1
              rw [hz, hy] at hct
              have HCT := Lib.hid hct
              clear hct hz hy hW'
              by_cases e1 : z = m1
              · subst e1
                by_cases e2 : y = m2
                · subst e2
                  have hsm : Hid (s + c = b + (cntT (z, y) (W.take (k + 2)) : Int) * c) := Lib.hid (by rw [HCT.out, if_pos ⟨rfl, rfl⟩, ← HS.out]; push_cast; rw [Int.add_mul]; omega)
                  have hws : IntKind.i64.wrap (s + c) = s + c := IntWalk.i64_in _ (by
                    have h1 := HMID.out HCP.out (k + 2)
                    have := hsm.out
                    have := HS2.out
                    have := HCP.out
                    omega)
                  go_wp2_with fail
                  refine wp_region_quiet_lit (by kernel_rfl) (by kernel_rfl) ?_
                  repeat (first | go_big_quiet_skip | quiet_step (fail))
                  refine wpQuiet_nil ?_
                  intro _ hqq
                  obtain ⟨nq, hq2⟩ := hqq
                  subst hq2
                  clear b0 b1 t0 t1
                  go_wp2
                  go_roundw
                  case measure => simp [intOf]; have := HJK.out; omega
                  case rel => exact ⟨k + 1, n2 + nq, by rw [HJK.out], by omega, by rw [hsm.out], rfl⟩
                · have hne := text_ne e2
                  have hsm : Hid (s = b + (cntT (z, m2) (W.take (k + 2)) : Int) * c) := Lib.hid (by rw [HCT.out, if_neg (fun h => e2 h.2), ← HS.out]; simp)
                  go_wp2_with fail
                  refine wp_region_quiet_lit (by kernel_rfl) (by kernel_rfl) ?_
                  repeat (first | go_big_quiet_skip | quiet_step (fail))
                  refine wpQuiet_nil ?_
                  intro _ hqq
                  obtain ⟨nq, hq2⟩ := hqq
                  subst hq2
                  clear b0 b1 t0 t1
                  go_wp2
                  go_roundw
                  case measure => simp [intOf]; have := HJK.out; omega
                  case rel => exact ⟨k + 1, n2 + nq, by rw [HJK.out], by omega, by rw [hsm.out], rfl⟩
              · have hne := text_ne e1
                have hsm : Hid (s = b + (cntT (m1, m2) (W.take (k + 2)) : Int) * c) := Lib.hid (by rw [HCT.out, if_neg (fun h => e1 h.1), ← HS.out]; simp)
                go_wp2_with fail
                refine wp_region_quiet_lit (by kernel_rfl) (by kernel_rfl) ?_
                repeat (first | go_big_quiet_skip | quiet_step (fail))
                refine wpQuiet_nil ?_
                intro _ hqq
                obtain ⟨nq, hq2⟩ := hqq
                subst hq2
                clear b0 b1 t0 t1
                go_wp2
                go_roundw
                case measure => simp [intOf]; have := HJK.out; omega
                case rel => exact ⟨k + 1, n2 + nq, by rw [HJK.out], by omega, by rw [hsm.out], rfl⟩
            · have hlastI : ¬ (j : Int) < (l : Int) := by omega
              have HEQ : Hid (cntW (m1, m2) (WW.take (i + 1)) (C.take (i + 1)) = s) := Lib.hid (by
                rw [HNX.out, if_pos HCP.out, ← HS.out, List.take_of_length_le (by rw [HL.out]; have := HJK.out; omega)])
              go_wp2
              go_roundw
              case measure => simp [intOf]; omega
              case rel => exact ⟨i + 1, n + n2, by simp, by rw [HN.out]; omega, by rw [HEQ.out], by rw [HWR.out, World.drewN_drewN]⟩
      · have hgcI : ¬ (i : Int) < (NC : Int) := by omega
        have HEQ : Hid (cntW (m1, m2) WW C = b) := Lib.hid (by rw [← HB.out, cntW_all (.inr (by rw [HNC.out]; omega))])
        go_wp2
        go_ret
        exact ⟨by rw [HEQ.out]; rfl, n, by rw [HWR.out, HW1.out]⟩
    · have hgoI : ¬ (i : Int) < (N : Int) := by omega
      have HEQ : Hid (cntW (m1, m2) WW C = b) := Lib.hid (by rw [← HB.out, cntW_all (.inl (by rw [HN.out]; omega))])
      go_wp2
      go_ret
      exact ⟨by rw [HEQ.out]; rfl, n, by rw [HWR.out, HW1.out]⟩
end Go.Proofs.Ytbacbgpemaldbaa
