/- Texts in one: NvC, NvB, Merge, WRow. -/
import Derived.Test.YtnmacalbbmeedaaGreatQ04
import Derived.Test.YtnmacalbbmeedaaGreatQ02
import Derived.Deep.SlicePairs
/- The document's own Count, walked. -/
namespace Go.Proofs.YtnmacalbbmeedaaGreat
open Go.RowKit

def CtRel (m : Mg) (WW : List (List ByteArray)) (C : List Int) (w1 : World) (s i : Value) (wr : World) : Prop :=
  ∃ k n : Nat, i = .int .i64 (k : Int) ∧ k ≤ WW.length ∧ s = .int .i64 (cntW m (WW.take k) (C.take k)) ∧ wr = w1.drewN n
def CtIn (m : Mg) (W : List ByteArray) (c b : Int) (w1 : World) (s i : Value) (wr : World) : Prop :=
  ∃ k n : Nat, i = .int .i64 (k : Int) ∧ k ≤ W.length ∧ s = .int .i64 (b + (cntT m (W.take (k + 1)) : Int) * c) ∧ wr = w1.drewN n
def CtRet (m : Mg) (WW : List (List ByteArray)) (C : List Int) (w : World) (e : Ending) (w' : World) : Prop := e = .returned (.int .i64 (cntW m WW C)) ∧ ∃ n, w' = (w.alloc (.cells #[.string m.1, .string m.2] 42)).drewN n
set_option maxRecDepth 100000 in
set_option maxHeartbeats 8000000 in
theorem rcount_nv (m : Mg) (x y : Value) (WW : List (List ByteArray)) (C : List Int) (w : World) (hx : rowsT w x WW) (hy : eltsAt intE w y C) (hl : WW.length ≤ 1000000) (hCl : C.length ≤ 9223372036854775807) (hln : ∀ W ∈ WW, W.length ≤ 1000000) (hcap : capW WW C ≤ 9223372036854775807) :
    Calls Tryz.prog 62 #[x, y, .agg #[.string m.1, .string m.2]] w fun e w' => CtRet m WW C w e w' := by
  obtain ⟨m1, m2⟩ := m
  obtain ⟨M, hM⟩ : ∃ M, w.heap.size = M := ⟨_, rfl⟩
  obtain ⟨w1, hw1⟩ : ∃ w1, w.alloc (.cells #[.string m1, .string m2] 42) = w1 := ⟨_, rfl⟩
  have hb1 : w1.heap[M]? = some (.cells #[.string m1, .string m2] 42 (0, 0)) := by rw [← hw1, ← hM]; exact heap_alloc_new w _
  have hbe : Below w.heap.size w w1 := by rw [← hw1]; exact (Below.refl _ w).alloc (Nat.le_refl _) _
  have m0 : w1.cell? ⟨M, 0, none⟩ = some (.string m1) := by rw [cell_of_row w1 M _ _ 42 (0, 0) hb1]; rfl
  have m0' : w1.cell? ⟨M, 1, none⟩ = some (.string m2) := by rw [cell_of_row w1 M _ _ 42 (0, 0) hb1]; rfl
  have hx1 := hx.below hbe
  have hy1 := hy.below hbe (Nat.le_refl _)
  obtain ⟨a, cx, rfl⟩ := hx.form
  obtain ⟨ay, cy, rfl, _⟩ := id hy
  obtain ⟨N, hN⟩ : ∃ N, WW.length = N := ⟨_, rfl⟩
  obtain ⟨NC, hNC⟩ : ∃ N, C.length = N := ⟨_, rfl⟩
  rw [hN] at hx1 ⊢
  rw [hNC] at hy1 ⊢
  have HX := Lib.hid hx1
  have HY := Lib.hid hy1
  have HN := Lib.hid hN
  have HNC := Lib.hid hNC
  have HLN := Lib.hid hln
  have HCAP := Lib.hid hcap
  have HW1 := Lib.hid hw1
  have hNl : N ≤ 1000000 := by omega
  have hNCl : NC ≤ 9223372036854775807 := by omega
  have HST : Hid (CtRel (m1, m2) WW C w1 (.int .i64 0) (.int .i64 0) w1) := Lib.hid ⟨0, 0, rfl, Nat.zero_le _, by simp [cntW], rfl⟩
  have HM0 : Hid (∀ n, (w1.drewN n).cell? ⟨M, 0, none⟩ = some (.string m1) ∧ (w1.drewN n).cell? ⟨M, 1, none⟩ = some (.string m2)) := Lib.hid fun n => ⟨m0, m0'⟩
  clear hx hx1 hy hy1 hbe hb1 hN hNC hln hcap m0 m0'
  go_enter Tryz.func62, Tryz.ntmps62
  go_wp2
  go_loopw [7, 8] (fun s i wr => CtRel (m1, m2) WW C w1 s i wr) (fun _ i _ => N - (intOf i).toNat)
  case atStart => exact HST.out
  case round =>
    clear HST hw1 hM
    obtain ⟨i, n, rfl, hi, rfl, hwr⟩ := hrel
    rw [HN.out] at hi
    obtain ⟨b, hb⟩ : ∃ b, cntW (m1, m2) (WW.take i) (C.take i) = b := ⟨_, rfl⟩
    have HB := Lib.hid hb
    rw [hb]
    have HWR := Lib.hid hwr
    clear hb
    have hbw : Below w1.heap.size w1 wr := by rw [hwr]; exact below_drewN' (Below.refl _ _) n
    have HBW := Lib.hid hbw
    clear hwr hbw
    by_cases hgo : i < N
    · have hgoI : (i : Int) < (N : Int) := by omega
      have hiW : i < WW.length := by rw [HN.out]; exact hgo
      by_cases hgc : i < NC
      · have hgcI : (i : Int) < (NC : Int) := by omega
        have hiC : i < C.length := by rw [HNC.out]; exact hgc
        obtain ⟨ay', rfl⟩ : ∃ ad, ay = some ad := by
          obtain ⟨_, _, e1, hc⟩ := HY.out
          obtain ⟨ad, e2, _⟩ := hc i hiC
          exact ⟨ad, (Value.slice.inj e1).1.trans e2⟩
        have hY' := HY.out
        rw [← HNC.out] at hY'
        have q0 := ints_cell hY' HBW.out hiC
        obtain ⟨c, hc⟩ : ∃ c, C[i] = c := ⟨_, rfl⟩
        rw [hc] at q0
        have hnext := cntW_next (m := (m1, m2)) hiW hiC
        have HMID : Hid (1 ≤ c → ∀ k, b + (cntT (m1, m2) (WW[i].take k) : Int) * c ≤ 9223372036854775807) := Lib.hid fun h1 k => by
          have := cntW_mid (m := (m1, m2)) hiW hiC (by rw [hc]; exact h1) k
          rw [hc, HB.out] at this
          have := HCAP.out
          omega
        have HB0 : Hid (0 ≤ b) := Lib.hid (by rw [← HB.out]; exact (cntW_le _ _ _).1)
        rw [hc, HB.out] at hnext
        have HNX := Lib.hid hnext
        have hwi : IntKind.i64.wrap ((i : Int) + 1) = (i : Int) + 1 := IntWalk.i64_in _ (by omega)
        clear hnext hY' hc
        by_cases hc1 : c < 1
        · have HNZ : Hid (cntW (m1, m2) (WW.take (i + 1)) (C.take (i + 1)) = b) := Lib.hid (by rw [HNX.out, if_neg (by omega)]; omega)
          go_wp2
          go_roundw
          case measure => simp [intOf]; omega
          case rel => exact ⟨i + 1, n, by simp, by rw [HN.out]; omega, by rw [HNZ.out], HWR.out⟩
        · have hX' := HX.out
          rw [← HN.out] at hX'
          obtain ⟨ad, ai, ci, rfl, r0, rE, rN⟩ := hX'.at HBW.out hiW
          have hlen := HLN.out _ (List.getElem_mem hiW)
          obtain ⟨W, hW⟩ : ∃ W, WW[i] = W := ⟨_, rfl⟩
          rw [hW] at r0 rE rN hlen HMID HNX
          obtain ⟨l, hl⟩ : ∃ l, W.length = l := ⟨_, rfl⟩
          rw [hl] at r0 rE rN
          have hl1 : l ≤ 1000000 := by omega
          have HE := Lib.hid rE
          have HL := Lib.hid hl
          obtain ⟨wo, hwo⟩ : ∃ wo, wo = wr := ⟨_, rfl⟩
          subst hwo
          have HIN : Hid (CtIn (m1, m2) W c b wo (.int .i64 b) (.int .i64 0) wo) := Lib.hid ⟨0, 0, rfl, Nat.zero_le _, by rw [tcnt_take_one]; simp, rfl⟩
          have HCP : Hid (1 ≤ c) := Lib.hid (by omega)
          clear rE rN hl hW hX' hlen
          go_wp2
          go_loopw [7, 9] (fun s k wr => CtIn (m1, m2) W c b wo s k wr) (fun _ k _ => l - (intOf k).toNat)
          case atStart => exact HIN.out
          case round =>
            clear HIN
            obtain ⟨k, n2, rfl, hk, rfl, rfl⟩ := hrel
            have hW' := HE.out
            rw [← HL.out] at hW'
            obtain ⟨s, hs⟩ : ∃ s, b + (cntT (m1, m2) (W.take (k + 1)) : Int) * c = s := ⟨_, rfl⟩
            have HS := Lib.hid hs
            have HS2 : Hid (0 ≤ s ∧ s ≤ 9223372036854775807) := Lib.hid (by
              have h1 := HMID.out HCP.out (k + 1)
              have h2 : 0 ≤ (cntT (m1, m2) (W.take (k + 1)) : Int) * c := Int.mul_nonneg (by omega) (by have := HCP.out; omega)
              have := HB0.out
              omega)
            rw [hs]
            obtain ⟨j, hj⟩ : ∃ j : Nat, k + 1 = j := ⟨_, rfl⟩
            have HJK := Lib.hid hj
            have hwk : IntKind.i64.wrap ((k : Int) + 1) = (j : Int) := by rw [← hj]; exact IntWalk.i64_in _ (by rw [HL.out] at hk; omega)
            have hj0 : (0 : Int) ≤ (j : Int) := by omega
            have hk0 : (0 : Int) ≤ (k : Int) := by omega
            have hbn : Below w1.heap.size w1 (wo.drewN n2) := below_drewN' HBW.out n2
            obtain ⟨b0, b1⟩ : wo.cell? ⟨M, 0, none⟩ = some (.string m1) ∧ wo.cell? ⟨M, 1, none⟩ = some (.string m2) := by rw [HWR.out]; exact HM0.out n
            clear hs hj hbn
            by_cases hlast : j < l
            · have hlastI : (j : Int) < (l : Int) := by omega
              have hkI : (k : Int) < (l : Int) := by have := HJK.out; omega
              have hkW : k < W.length := by rw [HL.out]; have := HJK.out; omega
              have hkW1 : k + 1 < W.length := by rw [HL.out]; have := HJK.out; omega
              obtain ⟨ti, rfl, t0⟩ := text_in hW' (Below.refl _ _) hkW
              obtain ⟨_, e1, t1⟩ := text_in hW' (Below.refl _ _) hkW1
              cases e1
              obtain ⟨z, hz⟩ : ∃ z, W[k] = z := ⟨_, rfl⟩
              obtain ⟨y, hy⟩ : ∃ y, W[k + 1] = y := ⟨_, rfl⟩
              rw [hz] at t0
              rw [hy, HJK.out] at t1
              have hct := tcnt_take (m := (m1, m2)) hkW1
              rw [hz, hy] at hct
              have HCT := Lib.hid hct
              clear hct hz hy hW'
              by_cases e1 : z = m1
              · subst e1
                by_cases e2 : y = m2
                · subst e2
                  have hsm : Hid (s + c = b + (cntT (z, y) (W.take (k + 2)) : Int) * c) := Lib.hid (by rw [HCT.out, if_pos ⟨rfl, rfl⟩, ← HS.out]; push_cast; rw [Int.add_mul]; omega)
                  have hws : IntKind.i64.wrap (s + c) = s + c := IntWalk.i64_in _ (by
                    have h1 := HMID.out HCP.out (k + 2)
                    have := hsm.out
                    have := HS2.out
                    have := HCP.out
                    omega)
                  go_wp2_with fail
                  refine wp_region_quiet_lit (by kernel_rfl) (by kernel_rfl) ?_
                  repeat (first | go_big_quiet_skip | quiet_step (fail))
                  refine wpQuiet_nil ?_
                  intro _ hqq
                  obtain ⟨nq, hq2⟩ := hqq
                  subst hq2
                  clear b0 b1 t0 t1
                  go_wp2
                  go_roundw
                  case measure => simp [intOf]; have := HJK.out; omega
                  case rel => exact ⟨k + 1, n2 + nq, by rw [HJK.out], by omega, by rw [hsm.out], rfl⟩
                · have hne := text_ne e2
                  have hsm : Hid (s = b + (cntT (z, m2) (W.take (k + 2)) : Int) * c) := Lib.hid (by rw [HCT.out, if_neg (fun h => e2 h.2), ← HS.out]; simp)
                  go_wp2_with fail
                  refine wp_region_quiet_lit (by kernel_rfl) (by kernel_rfl) ?_
                  repeat (first | go_big_quiet_skip | quiet_step (fail))
                  refine wpQuiet_nil ?_
                  intro _ hqq
                  obtain ⟨nq, hq2⟩ := hqq
                  subst hq2
                  clear b0 b1 t0 t1
                  go_wp2
                  go_roundw
                  case measure => simp [intOf]; have := HJK.out; omega
                  case rel => exact ⟨k + 1, n2 + nq, by rw [HJK.out], by omega, by rw [hsm.out], rfl⟩
              · have hne := text_ne e1
                have hsm : Hid (s = b + (cntT (m1, m2) (W.take (k + 2)) : Int) * c) := Lib.hid (by rw [HCT.out, if_neg (fun h => e1 h.1), ← HS.out]; simp)
                go_wp2_with fail
                refine wp_region_quiet_lit (by kernel_rfl) (by kernel_rfl) ?_
                repeat (first | go_big_quiet_skip | quiet_step (fail))
                refine wpQuiet_nil ?_
                intro _ hqq
                obtain ⟨nq, hq2⟩ := hqq
                subst hq2
                clear b0 b1 t0 t1
                go_wp2
                go_roundw
                case measure => simp [intOf]; have := HJK.out; omega
                case rel => exact ⟨k + 1, n2 + nq, by rw [HJK.out], by omega, by rw [hsm.out], rfl⟩
            · have hlastI : ¬ (j : Int) < (l : Int) := by omega
              have HEQ : Hid (cntW (m1, m2) (WW.take (i + 1)) (C.take (i + 1)) = s) := Lib.hid (by
                rw [HNX.out, if_pos HCP.out, ← HS.out, List.take_of_length_le (by rw [HL.out]; have := HJK.out; omega)])
              go_wp2
              go_roundw
              case measure => simp [intOf]; omega
              case rel => exact ⟨i + 1, n + n2, by simp, by rw [HN.out]; omega, by rw [HEQ.out], by rw [HWR.out, World.drewN_drewN]⟩
      · have hgcI : ¬ (i : Int) < (NC : Int) := by omega
        have HEQ : Hid (cntW (m1, m2) WW C = b) := Lib.hid (by rw [← HB.out, cntW_all (.inr (by rw [HNC.out]; omega))])
        go_wp2
        go_ret
        exact ⟨by rw [HEQ.out]; rfl, n, by rw [HWR.out, HW1.out]⟩
    · have hgoI : ¬ (i : Int) < (N : Int) := by omega
      have HEQ : Hid (cntW (m1, m2) WW C = b) := Lib.hid (by rw [← HB.out, cntW_all (.inl (by rw [HN.out]; omega))])
      go_wp2
      go_ret
      exact ⟨by rw [HEQ.out]; rfl, n, by rw [HWR.out, HW1.out]⟩
end Go.Proofs.YtnmacalbbmeedaaGreat
/- The best merge, as plain lists: what has been seen, and which is the best of it. -/
namespace Go.Proofs.YtnmacalbbmeedaaGreat
open Go.RowKit

/-- The best of what was seen. -/
def BestIn (WW : List (List ByteArray)) (C : List Int) (S : List Mg) (b : Mg) (n : Int) : Prop :=
  (S = [] ∧ b = noM ∧ n = 0) ∨ (b ∈ S ∧ 1 ≤ n ∧ cntW b WW C = n ∧ ∀ m ∈ S, cntW m WW C ≤ n ∧ (cntW m WW C = n → m ≠ b → aheadM b m = true))
/-- Just those are seen that stand ahead of place k of word i. -/
def SeenTo (WW : List (List ByteArray)) (C : List Int) (S : List Mg) (i : Nat) (w : List ByteArray) (k : Nat) : Prop := ∀ m, m ∈ S ↔ (1 ≤ cntW m (WW.take i) (C.take i) ∨ 1 ≤ cntT m (w.take (k + 1)))
variable {WW : List (List ByteArray)} {C : List Int} {S : List Mg} {b m : Mg} {n : Int} {i k : Nat} {w : List ByteArray}
set_option maxRecDepth 100000 in
theorem best_none (WW : List (List ByteArray)) (C : List Int) : BestIn WW C [] noM 0 := .inl ⟨rfl, rfl, rfl⟩
set_option maxRecDepth 100000 in
theorem BestIn.pos (h : BestIn WW C S b n) : 0 ≤ n := by rcases h with ⟨_, _, h⟩ | ⟨_, h, _⟩ <;> omega
set_option maxRecDepth 100000 in
/-- One more that is better. -/
theorem BestIn.turn (h : BestIn WW C S b n) (h1 : 1 ≤ cntW m WW C) (hb : n < cntW m WW C ∨ (cntW m WW C = n ∧ aheadM m b = true)) : BestIn WW C (S ++ [m]) m (cntW m WW C) := by
  refine .inr ⟨by simp, h1, rfl, fun m' hm' => ?_⟩
  rcases List.mem_append.1 hm' with hm' | hm'
  · rcases h with ⟨h2, _, _⟩ | ⟨h2, h3, h4, h5⟩
    · rw [h2] at hm'; simp at hm'
    · obtain ⟨a1, a2⟩ := h5 m' hm'
      rcases hb with hb | ⟨hb, hb2⟩
      · exact ⟨by omega, fun e => by omega⟩
      · refine ⟨by omega, fun e _ => ?_⟩
        by_cases e2 : m' = b
        · rw [e2]; exact hb2
        · exact aheadM_trans hb2 (a2 (by omega) e2)
  · rw [List.mem_singleton] at hm'
    rw [hm']
    exact ⟨Int.le_refl _, fun _ hne => absurd rfl hne⟩
set_option maxRecDepth 100000 in
/-- One more that isn't. -/
theorem BestIn.keep (h : BestIn WW C S b n) (h1 : 1 ≤ cntW m WW C) (hb : ¬ (n < cntW m WW C ∨ (cntW m WW C = n ∧ aheadM m b = true))) : BestIn WW C (S ++ [m]) b n := by
  rcases h with ⟨h2, h3, h4⟩ | ⟨h2, h3, h4, h5⟩
  · exact absurd (.inl (by omega)) hb
  · refine .inr ⟨List.mem_append.2 (.inl h2), h3, h4, fun m' hm' => ?_⟩
    rcases List.mem_append.1 hm' with hm' | hm'
    · exact h5 m' hm'
    · rw [List.mem_singleton] at hm'
      rw [hm']
      refine ⟨by by_cases e : n < cntW m WW C; exact absurd (.inl e) hb; omega, fun e hne => ?_⟩
      rcases aheadM_total hne with k | k
      · exact absurd (.inr ⟨e, k⟩) hb
      · exact k
set_option maxRecDepth 100000 in
/-- At the end. -/
theorem BestIn.best (h : BestIn WW C S b n) (hs : ∀ m, m ∈ S ↔ 1 ≤ cntW m WW C) : BestRel WW C b n := by
  rcases h with ⟨h2, h3, h4⟩ | ⟨h2, h3, h4, h5⟩
  · refine .inl ⟨h4, h3, fun m' => ?_⟩
    have h6 := (cntW_le m' WW C).1
    by_cases e : 1 ≤ cntW m' WW C
    · have := (hs m').2 e; rw [h2] at this; simp at this
    · omega
  · refine .inr ⟨h3, h4, fun m' => ?_⟩
    by_cases e : 1 ≤ cntW m' WW C
    · exact h5 m' ((hs m').2 e)
    · exact ⟨by omega, fun e2 => by omega⟩
set_option maxRecDepth 100000 in
theorem seen_start (WW : List (List ByteArray)) (C : List Int) (w : List ByteArray) : SeenTo WW C [] 0 w 0 := fun m => by
  rw [tcnt_take_one]
  simp [cntW]
set_option maxRecDepth 100000 in
/-- A pair that stands there. -/
theorem SeenTo.more (h : SeenTo WW C S i w k) (hk : k + 1 < w.length) (S' : List Mg) (hS : ∀ m, m ∈ S' ↔ m ∈ S ∨ m = (w[k]'(by omega), w[k + 1])) : SeenTo WW C S' i w (k + 1) := fun m => by
  rw [hS, h m, tcnt_take hk]
  have e : m = (w[k]'(by omega), w[k + 1]) ↔ (w[k]'(by omega) = m.1 ∧ w[k + 1] = m.2) := ⟨fun e => by rw [e]; exact ⟨rfl, rfl⟩, fun e => Prod.ext e.1.symm e.2.symm⟩
  rw [e]
  constructor
  · rintro ((h | h) | h)
    · exact .inl h
    · exact .inr (by omega)
    · exact .inr (by rw [if_pos h]; omega)
  · rintro (h | h)
    · exact .inl (.inl h)
    · by_cases e : w[k]'(by omega) = m.1 ∧ w[k + 1] = m.2
      · exact .inr e
      · rw [if_neg e] at h; exact .inl (.inr (by omega))
set_option maxRecDepth 100000 in
/-- A word is at its end. -/
theorem SeenTo.next (hi : i < WW.length) (hc : i < C.length) (hC : 1 ≤ C[i]) (h : SeenTo WW C S i WW[i] k) (hk : WW[i].length ≤ k + 1) (w' : List ByteArray) : SeenTo WW C S (i + 1) w' 0 := fun m => by
  rw [h m, cntW_next hi hc, if_pos hC, tcnt_take_one, List.take_of_length_le hk]
  have h1 := (cntW_le m (WW.take i) (C.take i)).1
  constructor
  · rintro (h | h)
    · have : 0 ≤ (cntT m WW[i] : Int) * C[i] := Int.mul_nonneg (by omega) (by omega)
      exact .inl (by omega)
    · have : 1 * C[i] ≤ (cntT m WW[i] : Int) * C[i] := Int.mul_le_mul_of_nonneg_right (by omega) (by omega)
      exact .inl (by omega)
  · rintro (h | h)
    · by_cases e : cntT m WW[i] = 0
      · rw [e] at h; exact .inl (by simpa using h)
      · exact .inr (by omega)
    · omega
set_option maxRecDepth 100000 in
/-- A word that plays no part. -/
theorem SeenTo.skip (hi : i < WW.length) (hc : i < C.length) (hC : C[i] < 1) (h : SeenTo WW C S i w 0) (w' : List ByteArray) : SeenTo WW C S (i + 1) w' 0 := fun m => by
  rw [h m, cntW_next hi hc, if_neg (by omega), tcnt_take_one, tcnt_take_one]
  simp
set_option maxRecDepth 100000 in
theorem SeenTo.end (hi : WW.length ≤ i ∨ C.length ≤ i) (h : SeenTo WW C S i w 0) : ∀ m, m ∈ S ↔ 1 ≤ cntW m WW C := fun m => by
  rw [h m, tcnt_take_one, cntW_all hi]
  simp
set_option maxRecDepth 100000 in
theorem SeenTo.word (h : SeenTo WW C S i w 0) (w' : List ByteArray) : SeenTo WW C S i w' 0 := fun m => by
  rw [h m, tcnt_take_one, tcnt_take_one]
set_option maxRecDepth 100000 in
/-- What stands in a word is counted. -/
theorem stands_cnt (hi : i < WW.length) (hc : i < C.length) (hC : 1 ≤ C[i]) (hk : k + 1 < WW[i].length) : 1 ≤ cntW (WW[i][k]'(by omega), WW[i][k + 1]) WW C := by
  have h1 := cntW_split (WW[i][k]'(by omega), WW[i][k + 1]) WW C (i + 1)
  have h2 := cntW_next (m := (WW[i][k]'(by omega), WW[i][k + 1])) hi hc
  have h3 := (cntW_le (WW[i][k]'(by omega), WW[i][k + 1]) (WW.take i) (C.take i)).1
  have h4 := (cntW_le (WW[i][k]'(by omega), WW[i][k + 1]) (WW.drop (i + 1)) (C.drop (i + 1))).1
  have h5 := tcnt_take (m := (WW[i][k]'(by omega), WW[i][k + 1])) hk
  rw [if_pos ⟨rfl, rfl⟩] at h5
  have h6 : cntT (WW[i][k]'(by omega), WW[i][k + 1]) (WW[i].take (k + 2)) ≤ cntT (WW[i][k]'(by omega), WW[i][k + 1]) WW[i] := by
    have : ∀ (m : Mg) (w : List ByteArray) (j : Nat), cntT m (w.take j) ≤ cntT m w := by
      intro m w
      induction w with
      | nil => intro j; simp
      | cons x r ih =>
        intro j
        cases j with
        | zero => simp [cntT]
        | succ j =>
          cases r with
          | nil => simp [cntT]
          | cons y r =>
            cases j with
            | zero => simp [cntT]
            | succ j =>
              have := ih (j + 1)
              simp only [List.take_succ_cons] at *
              unfold cntT
              omega
    exact this _ _ _
  rw [if_pos hC] at h2
  have h7 : 1 * C[i] ≤ (cntT (WW[i][k]'(by omega), WW[i][k + 1]) WW[i] : Int) * C[i] := Int.mul_le_mul_of_nonneg_right (by omega) (by omega)
  omega
end Go.Proofs.YtnmacalbbmeedaaGreat
/- Adding words, as the document says it, on plain lists. -/
namespace Go.Proofs.YtnmacalbbmeedaaGreat

/-- A word that is there so many times more; else an error's number. -/
def addW (L : Bag) (s : ByteArray) (n : Int) : Bag × Int :=
  if s.size = 0 ∨ n < 1 then (L, 1) else if countOf L s + n ≤ 9223372036854775807 then (putW s (countOf L s + n) L, 0) else (L, 5)
/-- A counter's words: rising, counts within. -/
def Sound (L : Bag) : Prop := Rising L ∧ ∀ p ∈ L, 1 ≤ p.2 ∧ p.2 ≤ 9223372036854775807 ∧ p.1.size ≤ 9223372036854775807
set_option maxRecDepth 100000 in
theorem Sound.count {L : Bag} (h : Sound L) (s : ByteArray) : 0 ≤ countOf L s ∧ countOf L s ≤ 9223372036854775807 := by
  rcases countOf_cases L s with ⟨h1, _⟩ | h1
  · rw [h1]; omega
  · have := h.2 _ h1
    simp only at this; omega
set_option maxRecDepth 100000 in
theorem Sound.add {L : Bag} (h : Sound L) {s : ByteArray} (n : Int) (hs : s.size ≤ 9223372036854775807) : Sound (addW L s n).1 := by
  unfold addW
  split
  · exact h
  · split
    · refine ⟨rising_putW h.1, fun p hp => ?_⟩
      rcases (mem_putW h.1 p).1 hp with rfl | ⟨k, _⟩
      · have := h.count s
        exact ⟨by simp only; omega, by simp only; omega, hs⟩
      · exact h.2 p k
    · exact h
end Go.Proofs.YtnmacalbbmeedaaGreat
/- Rows of words with counts, read, owned or made. -/
namespace Go.Proofs.YtnmacalbbmeedaaGreat
open Go.ChangeShapes Go.WideShapes Go.RowKit

def wcells (L : Bag) : List Value := L.flatMap fun p => [.string p.1, .int .i64 p.2]
set_option maxRecDepth 100000 in
theorem wcells_len (L : Bag) : (wcells L).length = L.length * 2 := by
  induction L with
  | nil => rfl
  | cons q r ih => unfold wcells at ih ⊢; rw [List.flatMap_cons, List.length_append, ih]; simp; omega
set_option maxRecDepth 100000 in
theorem wcells_append (a b : Bag) : wcells (a ++ b) = wcells a ++ wcells b := by simp [wcells]
set_option maxRecDepth 100000 in
theorem wcells_at : ∀ (L : Bag) {j : Nat} (hj : j < L.length), (wcells L)[j * 2]? = some (.string L[j].1) ∧ (wcells L)[j * 2 + 1]? = some (.int .i64 L[j].2)
  | q :: r, 0, _ => ⟨rfl, rfl⟩
  | q :: r, j + 1, hj => by
    have ih := wcells_at r (j := j) (by simpa using hj)
    have e : wcells (q :: r) = .string q.1 :: .int .i64 q.2 :: wcells r := rfl
    have e1 : (j + 1) * 2 = j * 2 + 1 + 1 := by omega
    rw [e, e1]
    simp only [List.getElem?_cons_succ, List.getElem_cons_succ]
    exact ih
/-- The slice value v reads as the words L. -/
def wordsAt (w : World) (v : Value) (L : Bag) : Prop :=
  ∃ a cap, v = .slice a L.length cap ∧ ∀ j (h : j < L.length), ∃ ad, a = some ad ∧ ad.block < w.heap.size ∧ w.cell? (ad.add (j * 2)) = some (.string L[j].1) ∧ w.cell? ⟨(ad.add (j * 2)).block, (ad.add (j * 2)).off + 1, none⟩ = some (.int .i64 L[j].2)
/-- Words of an argument. -/
def Fits (L : Bag) : Prop := ∀ p ∈ L, p.1.size ≤ 9223372036854775807 ∧ -9223372036854775808 ≤ p.2 ∧ p.2 ≤ 9223372036854775807
set_option maxRecDepth 100000 in
theorem Fits.at {L : Bag} (h : Fits L) {j : Nat} (hj : j < L.length) : L[j].1.size ≤ 9223372036854775807 ∧ -9223372036854775808 ≤ L[j].2 ∧ L[j].2 ≤ 9223372036854775807 := h _ (List.getElem_mem hj)
set_option maxRecDepth 100000 in
theorem Sound.fits {L : Bag} (h : Sound L) : Fits L := fun p hp => by have := h.2 p hp; exact ⟨this.2.2, by omega, this.2.1⟩
set_option maxRecDepth 100000 in
theorem wordsAt.below {w w' : World} {v : Value} {L : Bag} {B : Nat} (h : wordsAt w v L) (hb : Below B w w') (hB : w.heap.size ≤ B) : wordsAt w' v L := by
  obtain ⟨a, cap, rfl, hc⟩ := h
  refine ⟨a, cap, rfl, fun j hj => ?_⟩
  obtain ⟨ad, rfl, hlt, h1, h2⟩ := hc j hj
  exact ⟨ad, rfl, Nat.lt_of_lt_of_le hlt hb.size, (hb.cell (by rw [add_block]; omega)).trans h1, (hb.cell (by show (ad.add (j * 2)).block < B; rw [add_block]; omega)).trans h2⟩
set_option maxRecDepth 100000 in
theorem wordsAt.drew {w : World} {v : Value} {L : Bag} (h : wordsAt w v L) (n : Nat) : wordsAt (w.drewN n) v L := h
set_option maxRecDepth 100000 in
theorem wordsAt.nil (w : World) : wordsAt w (.slice none 0 0) [] := ⟨none, 0, rfl, fun j hj => by simp at hj⟩
/-- The slice value v owns the words L. -/
def ownW (w : World) (base : Nat) (v : Value) (L : Bag) : Prop := w.ownsRow base 56 2 v L.length (wcells L)
set_option maxRecDepth 100000 in
theorem ownW.lt {w : World} {base : Nat} {v : Value} {L : Bag} (h : ownW w base v L) : ∀ k, v.ownBlock = some k → base ≤ k ∧ k < w.heap.size := World.ownsRow.lt h
set_option maxRecDepth 100000 in
theorem ownW.kept {w w' : World} {base : Nat} {v : Value} {L : Bag} (h : ownW w base v L) (hk : ∀ g, v.ownBlock = some g → w'.heap[g]? = w.heap[g]?) : ownW w' base v L := by
  refine ⟨h.1, ?_⟩
  rcases h.2 with hn | ⟨g, cap, cur, rfl, hb, hgg, rest⟩
  · exact .inl hn
  · exact .inr ⟨g, cap, cur, rfl, hb, by rw [hk g rfl]; exact hgg, rest⟩
set_option maxRecDepth 100000 in
theorem ownW.below {w w' : World} {base : Nat} {v : Value} {L : Bag} (h : ownW w base v L) (hb : Below w.heap.size w w') : ownW w' base v L := h.kept fun g hg => hb.block g (h.lt g hg).2
set_option maxRecDepth 100000 in
theorem ownW.block {w : World} {base : Nat} {v : Value} {L : Bag} (h : ownW w base v L) : ∀ g, v.ownBlock = some g → ∃ cs, w.heap[g]? = some (.cells cs 56 (0, 0)) := by
  intro g hg
  rcases h.2 with ⟨rfl, _⟩ | ⟨g', cap, cur, rfl, _, hgg, _⟩
  · simp [Value.ownBlock] at hg
  · simp [Value.ownBlock] at hg; subst hg; exact ⟨cur, hgg⟩
set_option maxRecDepth 100000 in
theorem ownW.mono {w : World} {b b' : Nat} {v : Value} {L : Bag} (h : ownW w b v L) (hb : b' ≤ b) : ownW w b' v L := by
  refine ⟨h.1, ?_⟩
  rcases h.2 with hn | ⟨g, cap, cur, rfl, hb2, rest⟩
  · exact .inl hn
  · exact .inr ⟨g, cap, cur, rfl, Nat.le_trans hb hb2, rest⟩
set_option maxRecDepth 100000 in
theorem ownW.nil (w : World) (b : Nat) : ownW w b (.slice none 0 0) [] := ⟨rfl, .inl ⟨rfl, rfl⟩⟩
set_option maxRecDepth 100000 in
theorem ownW.reads {w : World} {base : Nat} {v : Value} {L : Bag} (h : ownW w base v L) : wordsAt w v L := by
  rcases h.2 with ⟨rfl, h0⟩ | ⟨g, cap, cur, rfl, hb, hg, h1, h2, h3, h4⟩
  · refine ⟨none, 0, by rw [h0], fun j hj => by omega⟩
  · have hc : ∀ i u, (wcells L)[i]? = some u → w.cell? ((⟨g, 0, none⟩ : Addr).add i) = some u := by
      intro i u hu
      have hi : i < L.length * 2 := by have := (List.getElem?_eq_some_iff.1 hu).1; rwa [wcells_len] at this
      rw [add_zero_off, cell_of_row w g i cur 56 (0, 0) hg, ← hu, ← h4, List.getElem?_take_of_lt hi]
      simp
    refine ⟨_, cap, rfl, fun j hj => ⟨_, rfl, (Array.getElem?_eq_some_iff.1 hg).1, hc _ _ (wcells_at L hj).1, by rw [← two_cell]; exact hc _ _ (wcells_at L hj).2⟩⟩
set_option maxRecDepth 100000 in
theorem ownW.form {w : World} {base : Nat} {v : Value} {L : Bag} (h : ownW w base v L) : ∃ a cap, v = .slice a L.length cap ∧ L.length ≤ cap := by
  rcases h.2 with ⟨rfl, h0⟩ | ⟨g, cap, cur, rfl, _, _, h1, _⟩
  · exact ⟨none, 0, by rw [h0], by omega⟩
  · exact ⟨_, cap, rfl, h1⟩
set_option maxRecDepth 100000 in
theorem ownW.nilNone {w : World} {base : Nat} {v : Value} {L : Bag} (h : ownW w base v L) : nilNone v := by
  rcases h.2 with ⟨rfl, h0⟩ | ⟨g, cap, cur, rfl, _⟩
  · intro n c e; cases e; rfl
  · intro n c e; cases e
set_option maxRecDepth 100000 in
theorem ownW.app {w2 : World} {b : Nat} {r : Value} {A B : Bag} {n : Nat} (h : w2.ownsRow b 56 2 r (A.length + n) (wcells A ++ wcells B)) (hn : n = B.length) : ownW w2 b r (A ++ B) := by
  unfold ownW; rw [List.length_append, wcells_append, ← hn]; exact h
set_option maxRecDepth 100000 in
theorem ownW.alloc {w : World} {b : Nat} {v : Value} {A : Bag} (h : ownW w b v A) (o : Obj) : ownW (w.alloc o) b v A := h.kept fun g hg => Below.heap_alloc _ _ _ (h.lt g hg).2
set_option maxRecDepth 100000 in
theorem ownW.drewN {w : World} {b : Nat} {v : Value} {L : Bag} (h : ownW w b v L) (n : Nat) : ownW (w.drewN n) b v L := h
set_option maxRecDepth 100000 in
theorem ownW.drew {w : World} {b : Nat} {v : Value} {L : Bag} (h : ownW w b v L) : ownW w.drew b v L := h
/-- Block g is a row of n words at least that may be written. -/
def rowW (w : World) (g n : Nat) : Prop := ∃ cs, w.heap[g]? = some (.cells cs 56 (0, 0)) ∧ n * 2 ≤ cs.size
set_option maxRecDepth 100000 in
theorem rowW.cells {w : World} {g n j : Nat} (h : rowW w g n) (hj : j < n) : (∃ u, w.cell? ⟨g, j * 2, none⟩ = some u) ∧ w.frozen? ⟨g, j * 2, none⟩ = false := by
  obtain ⟨cs, hg, h1⟩ := h
  refine ⟨⟨cs[j * 2], ?_⟩, Lib.frozen_of_heap hg _⟩
  rw [cell_of_row w g _ cs 56 (0, 0) hg, Array.getElem?_eq_getElem (by omega)]
set_option maxRecDepth 100000 in
theorem rowW.store {w : World} {g n : Nat} (h : rowW w g n) (j : Nat) (u : Value) : rowW (w.setCell ⟨g, j, none⟩ u) g n := by
  obtain ⟨cs, hg, h1⟩ := h
  exact ⟨_, heap_setCell_at hg u, by simpa using h1⟩
set_option maxRecDepth 100000 in
theorem wcells_set (s : ByteArray) (c : Int) : ∀ (M : Bag) (p : Nat), wcells (M.set p (s, c)) = ((wcells M).set (p * 2) (.string s)).set (p * 2 + 1) (.int .i64 c)
  | [], p => by simp [wcells]
  | q :: r, 0 => rfl
  | q :: r, p + 1 => by
    have ih := wcells_set s c r p
    have e1 : (p + 1) * 2 = p * 2 + 1 + 1 := by omega
    have e2 : (p + 1) * 2 + 1 = p * 2 + 1 + 1 + 1 := by omega
    rw [List.set_cons_succ]
    show Value.string q.1 :: Value.int .i64 q.2 :: wcells (r.set p (s, c)) = _
    rw [ih, e2, e1]
    rfl
set_option maxRecDepth 100000 in
/-- An owned row, written at one word. -/
theorem ownW.store {w : World} {b g n cap : Nat} {M : Bag} (h : ownW w b (.slice (some ⟨g, 0, none⟩) n cap) M) (p : Nat) (s : ByteArray) (c : Int) :
    ownW ((w.setCell ⟨g, p * 2, none⟩ (.string s)).setCell ⟨g, p * 2 + 1, none⟩ (.int .i64 c)) b (.slice (some ⟨g, 0, none⟩) n cap) (M.set p (s, c)) := by
  rcases h.2 with ⟨h0, _⟩ | ⟨g', cap', cur, hv, hb, hg, h1, h2, h3, h4⟩
  · cases h0
  · cases hv
    refine ⟨by rw [wcells_len], .inr ⟨g, cap, (cur.setIfInBounds (p * 2) (.string s)).setIfInBounds (p * 2 + 1) (.int .i64 c), by simp, hb, heap_setCell_at (heap_setCell_at hg _) _, by simpa using h1, by simpa using h2, by simpa using h3, ?_⟩⟩
    rw [List.length_set, Array.toList_setIfInBounds, Array.toList_setIfInBounds, List.take_set, List.take_set, h4, wcells_set]
set_option maxRecDepth 100000 in
theorem words_at {w wr : World} {L : Bag} {ad : Addr} {n cap : Nat} (h : wordsAt w (.slice (some ad) n cap) L) (hb : Below w.heap.size w wr) {k : Nat} (hk : k < L.length) :
    wr.cell? (ad.add (k * 2)) = some (.string L[k].1) ∧ wr.cell? ⟨(ad.add (k * 2)).block, (ad.add (k * 2)).off + 1, none⟩ = some (.int .i64 L[k].2) := by
  obtain ⟨a, cap', e, hc⟩ := h.below hb (Nat.le_refl _)
  cases e
  obtain ⟨ad', e, _, h1, h2⟩ := hc k hk
  cases e
  exact ⟨h1, h2⟩
set_option maxRecDepth 100000 in
/-- Two words laid apart. -/
theorem boxes {w wp : World} {b : Nat} {v : Value} {M : Bag} (ho : ownW wp b v M) (hb : Below w.heap.size w wp) (s1 s2 : ByteArray) (c1 c2 : Int) :
    ((wp.alloc (.cells #[.string s1, .int .i64 c1] 56)).alloc (.cells #[.string s2, .int .i64 c2] 56)).drew.cell? ⟨wp.heap.size, 0, none⟩ = some (.string s1) ∧
    ((wp.alloc (.cells #[.string s1, .int .i64 c1] 56)).alloc (.cells #[.string s2, .int .i64 c2] 56)).drew.cell? ⟨wp.heap.size, 1, none⟩ = some (.int .i64 c1) ∧
    ((wp.alloc (.cells #[.string s1, .int .i64 c1] 56)).alloc (.cells #[.string s2, .int .i64 c2] 56)).drew.cell? ⟨wp.heap.size + 1, 0, none⟩ = some (.string s2) ∧
    ((wp.alloc (.cells #[.string s1, .int .i64 c1] 56)).alloc (.cells #[.string s2, .int .i64 c2] 56)).drew.cell? ⟨wp.heap.size + 1, 1, none⟩ = some (.int .i64 c2) ∧
    ownW ((wp.alloc (.cells #[.string s1, .int .i64 c1] 56)).alloc (.cells #[.string s2, .int .i64 c2] 56)).drew b v M ∧
    Below w.heap.size w ((wp.alloc (.cells #[.string s1, .int .i64 c1] 56)).alloc (.cells #[.string s2, .int .i64 c2] 56)).drew := by
  have h1 : ((wp.alloc (.cells #[.string s1, .int .i64 c1] 56)).alloc (.cells #[.string s2, .int .i64 c2] 56)).drew.heap[wp.heap.size]? = some (.cells #[.string s1, .int .i64 c1] 56 (0, 0)) :=
    (Below.heap_alloc _ _ _ (by rw [World.size_alloc]; omega)).trans (heap_alloc_new wp _)
  have h2 : ((wp.alloc (.cells #[.string s1, .int .i64 c1] 56)).alloc (.cells #[.string s2, .int .i64 c2] 56)).drew.heap[wp.heap.size + 1]? = some (.cells #[.string s2, .int .i64 c2] 56 (0, 0)) := by
    have := heap_alloc_new (wp.alloc (.cells #[.string s1, .int .i64 c1] 56)) (.cells #[.string s2, .int .i64 c2] 56)
    rw [World.size_alloc] at this
    exact this
  refine ⟨?_, ?_, ?_, ?_, ((ho.alloc _).alloc _).drew, ((hb.alloc hb.size _).alloc (by rw [World.size_alloc]; have := hb.size; omega) _).drew⟩
  · rw [cell_of_row _ _ 0 _ 56 (0, 0) h1]; rfl
  · rw [cell_of_row _ _ 1 _ 56 (0, 0) h1]; rfl
  · rw [cell_of_row _ _ 0 _ 56 (0, 0) h2]; rfl
  · rw [cell_of_row _ _ 1 _ 56 (0, 0) h2]; rfl
end Go.Proofs.YtnmacalbbmeedaaGreat
