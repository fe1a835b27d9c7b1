/- Texts in one: NvC, NvB, Merge. -/
import Derived.Test.YtnmacalbbmeedaaGreatQ04
import Derived.Test.YtnmacalbbmeedaaGreatQ02
/- The document's own Count, walked. -/
namespace Go.Proofs.YtnmacalbbmeedaaGreat
open Go.RowKit

def CtRel (m : Mg) (WW : List (List ByteArray)) (C : List Int) (w1 : World) (s i : Value) (wr : World) : Prop :=
  ∃ k n : Nat, i = .int .i64 (k : Int) ∧ k ≤ WW.length ∧ s = .int .i64 (cntW m (WW.take k) (C.take k)) ∧ wr = w1.drewN n
def CtIn (m : Mg) (W : List ByteArray) (c b : Int) (w1 : World) (s i : Value) (wr : World) : Prop :=
  ∃ k n : Nat, i = .int .i64 (k : Int) ∧ k ≤ W.length ∧ s = .int .i64 (b + (cntT m (W.take (k + 1)) : Int) * c) ∧ wr = w1.drewN n
def CtRet (m : Mg) (WW : List (List ByteArray)) (C : List Int) (w : World) (e : Ending) (w' : World) : Prop := e = .returned (.int .i64 (cntW m WW C)) ∧ ∃ n, w' = (w.alloc (.cells #[.string m.1, .string m.2] 42)).drewN n
set_option maxRecDepth 100000 in
set_option maxHeartbeats 8000000 in
theorem rcount_nv (m : Mg) (x y : Value) (WW : List (List ByteArray)) (C : List Int) (w : World) (hx : rowsT w x WW) (hy : eltsAt intE w y C) (hl : WW.length ≤ 1000000) (hCl : C.length ≤ 9223372036854775807) (hln : ∀ W ∈ WW, W.length ≤ 1000000) (hcap : capW WW C ≤ 9223372036854775807) :
    Calls Tryz.prog 62 #[x, y, .agg #[.string m.1, .string m.2]] w fun e w' => CtRet m WW C w e w' := by
  obtain ⟨m1, m2⟩ := m
  obtain ⟨M, hM⟩ : ∃ M, w.heap.size = M := ⟨_, rfl⟩
  obtain ⟨w1, hw1⟩ : ∃ w1, w.alloc (.cells #[.string m1, .string m2] 42) = w1 := ⟨_, rfl⟩
  have hb1 : w1.heap[M]? = some (.cells #[.string m1, .string m2] 42 (0, 0)) := by rw [← hw1, ← hM]; exact heap_alloc_new w _
  have hbe : Below w.heap.size w w1 := by rw [← hw1]; exact (Below.refl _ w).alloc (Nat.le_refl _) _
  have m0 : w1.cell? ⟨M, 0, none⟩ = some (.string m1) := by rw [cell_of_row w1 M _ _ 42 (0, 0) hb1]; rfl
  have m0' : w1.cell? ⟨M, 1, none⟩ = some (.string m2) := by rw [cell_of_row w1 M _ _ 42 (0, 0) hb1]; rfl
  have hx1 := hx.below hbe
  have hy1 := hy.below hbe (Nat.le_refl _)
  obtain ⟨a, cx, rfl⟩ := hx.form
  obtain ⟨ay, cy, rfl, _⟩ := id hy
  obtain ⟨N, hN⟩ : ∃ N, WW.length = N := ⟨_, rfl⟩
  obtain ⟨NC, hNC⟩ : ∃ N, C.length = N := ⟨_, rfl⟩
  rw [hN] at hx1 ⊢
  rw [hNC] at hy1 ⊢
  have HX := Lib.hid hx1
  have HY := Lib.hid hy1
  have HN := Lib.hid hN
  have HNC := Lib.hid hNC
  have HLN := Lib.hid hln
  have HCAP := Lib.hid hcap
  have HW1 := Lib.hid hw1
  have hNl : N ≤ 1000000 := by omega
  have hNCl : NC ≤ 9223372036854775807 := by omega
  have HST : Hid (CtRel (m1, m2) WW C w1 (.int .i64 0) (.int .i64 0) w1) := Lib.hid ⟨0, 0, rfl, Nat.zero_le _, by simp [cntW], rfl⟩
  have HM0 : Hid (∀ n, (w1.drewN n).cell? ⟨M, 0, none⟩ = some (.string m1) ∧ (w1.drewN n).cell? ⟨M, 1, none⟩ = some (.string m2)) := Lib.hid fun n => ⟨m0, m0'⟩
  clear hx hx1 hy hy1 hbe hb1 hN hNC hln hcap m0 m0'
  go_enter Tryz.func62, Tryz.ntmps62
  go_wp2
  go_loopw [7, 8] (fun s i wr => CtRel (m1, m2) WW C w1 s i wr) (fun _ i _ => N - (intOf i).toNat)
  case atStart => exact HST.out
  case round =>
    clear HST hw1 hM
    obtain ⟨i, n, rfl, hi, rfl, hwr⟩ := hrel
    rw [HN.out] at hi
    obtain ⟨b, hb⟩ : ∃ b, cntW (m1, m2) (WW.take i) (C.take i) = b := ⟨_, rfl⟩
    have HB := Lib.hid hb
    rw [hb]
    have HWR := Lib.hid hwr
    clear hb
    have hbw : Below w1.heap.size w1 wr := by rw [hwr]; exact below_drewN' (Below.refl _ _) n
    have HBW := Lib.hid hbw
    clear hwr hbw
    by_cases hgo : i < N
    · have hgoI : (i : Int) < (N : Int) := by omega
      have hiW : i < WW.length := by rw [HN.out]; exact hgo
      by_cases hgc : i < NC
      · have hgcI : (i : Int) < (NC : Int) := by omega
        have hiC : i < C.length := by rw [HNC.out]; exact hgc
        obtain ⟨ay', rfl⟩ : ∃ ad, ay = some ad := by
          obtain ⟨_, _, e1, hc⟩ := HY.out
          obtain ⟨ad, e2, _⟩ := hc i hiC
          exact ⟨ad, (Value.slice.inj e1).1.trans e2⟩
        have hY' := HY.out
        rw [← HNC.out] at hY'
        have q0 := ints_cell hY' HBW.out hiC
        obtain ⟨c, hc⟩ : ∃ c, C[i] = c := ⟨_, rfl⟩
        rw [hc] at q0
        have hnext := cntW_next (m := (m1, m2)) hiW hiC
        have HMID : Hid (1 ≤ c → ∀ k, b + (cntT (m1, m2) (WW[i].take k) : Int) * c ≤ 9223372036854775807) := Lib.hid fun h1 k => by
          have := cntW_mid (m := (m1, m2)) hiW hiC (by rw [hc]; exact h1) k
          rw [hc, HB.out] at this
          have := HCAP.out
          omega
        have HB0 : Hid (0 ≤ b) := Lib.hid (by rw [← HB.out]; exact (cntW_le _ _ _).1)
        rw [hc, HB.out] at hnext
        have HNX := Lib.hid hnext
        have hwi : IntKind.i64.wrap ((i : Int) + 1) = (i : Int) + 1 := IntWalk.i64_in _ (by omega)
        clear hnext hY' hc
        by_cases hc1 : c < 1
        · have HNZ : Hid (cntW (m1, m2) (WW.take (i + 1)) (C.take (i + 1)) = b) := Lib.hid (by rw [HNX.out, if_neg (by omega)]; omega)
          go_wp2
          go_roundw
          case measure => simp [intOf]; omega
          case rel => exact ⟨i + 1, n, by simp, by rw [HN.out]; omega, by rw [HNZ.out], HWR.out⟩
        · have hX' := HX.out
          rw [← HN.out] at hX'
          obtain ⟨ad, ai, ci, rfl, r0, rE, rN⟩ := hX'.at HBW.out hiW
          have hlen := HLN.out _ (List.getElem_mem hiW)
          obtain ⟨W, hW⟩ : ∃ W, WW[i] = W := ⟨_, rfl⟩
          rw [hW] at r0 rE rN hlen HMID HNX
          obtain ⟨l, hl⟩ : ∃ l, W.length = l := ⟨_, rfl⟩
          rw [hl] at r0 rE rN
          have hl1 : l ≤ 1000000 := by omega
          have HE := Lib.hid rE
          have HL := Lib.hid hl
          obtain ⟨wo, hwo⟩ : ∃ wo, wo = wr := ⟨_, rfl⟩
          subst hwo
          have HIN : Hid (CtIn (m1, m2) W c b wo (.int .i64 b) (.int .i64 0) wo) := Lib.hid ⟨0, 0, rfl, Nat.zero_le _, by rw [tcnt_take_one]; simp, rfl⟩
          have HCP : Hid (1 ≤ c) := Lib.hid (by omega)
          clear rE rN hl hW hX' hlen
          go_wp2
          go_loopw [7, 9] (fun s k wr => CtIn (m1, m2) W c b wo s k wr) (fun _ k _ => l - (intOf k).toNat)
          case atStart => exact HIN.out
          case round =>
            clear HIN
            obtain ⟨k, n2, rfl, hk, rfl, rfl⟩ := hrel
            have hW' := HE.out
            rw [← HL.out] at hW'
            obtain ⟨s, hs⟩ : ∃ s, b + (cntT (m1, m2) (W.take (k + 1)) : Int) * c = s := ⟨_, rfl⟩
            have HS := Lib.hid hs
            have HS2 : Hid (0 ≤ s ∧ s ≤ 9223372036854775807) := Lib.hid (by
              have h1 := HMID.out HCP.out (k + 1)
              have h2 : 0 ≤ (cntT (m1, m2) (W.take (k + 1)) : Int) * c := Int.mul_nonneg (by omega) (by have := HCP.out; omega)
              have := HB0.out
              omega)
            rw [hs]
            obtain ⟨j, hj⟩ : ∃ j : Nat, k + 1 = j := ⟨_, rfl⟩
            have HJK := Lib.hid hj
            have hwk : IntKind.i64.wrap ((k : Int) + 1) = (j : Int) := by rw [← hj]; exact IntWalk.i64_in _ (by rw [HL.out] at hk; omega)
            have hj0 : (0 : Int) ≤ (j : Int) := by omega
            have hk0 : (0 : Int) ≤ (k : Int) := by omega
            have hbn : Below w1.heap.size w1 (wo.drewN n2) := below_drewN' HBW.out n2
            obtain ⟨b0, b1⟩ : wo.cell? ⟨M, 0, none⟩ = some (.string m1) ∧ wo.cell? ⟨M, 1, none⟩ = some (.string m2) := by rw [HWR.out]; exact HM0.out n
            clear hs hj hbn
            by_cases hlast : j < l
            · have hlastI : (j : Int) < (l : Int) := by omega
              have hkI : (k : Int) < (l : Int) := by have := HJK.out; omega
              have hkW : k < W.length := by rw [HL.out]; have := HJK.out; omega
              have hkW1 : k + 1 < W.length := by rw [HL.out]; have := HJK.out; omega
              obtain ⟨ti, rfl, t0⟩ := text_in hW' (Below.refl _ _) hkW
              obtain ⟨_, e1, t1⟩ := text_in hW' (Below.refl _ _) hkW1
              cases e1
              obtain ⟨z, hz⟩ : ∃ z, W[k] = z := ⟨_, rfl⟩
              obtain ⟨y, hy⟩ : ∃ y, W[k + 1] = y := ⟨_, rfl⟩
              rw [hz] at t0
              rw [hy, HJK.out] at t1
              have hct := tcnt_take (m := (m1, m2)) hkW1
              rw [hz, hy] at hct
              have HCT := Lib.hid hct
              clear hct hz hy hW'
              by_cases e1 : z = m1
              · subst e1
                by_cases e2 : y = m2
                · subst e2
                  have hsm : Hid (s + c = b + (cntT (z, y) (W.take (k + 2)) : Int) * c) := Lib.hid (by rw [HCT.out, if_pos ⟨rfl, rfl⟩, ← HS.out]; push_cast; rw [Int.add_mul]; omega)
                  have hws : IntKind.i64.wrap (s + c) = s + c := IntWalk.i64_in _ (by
                    have h1 := HMID.out HCP.out (k + 2)
                    have := hsm.out
                    have := HS2.out
                    have := HCP.out
                    omega)
                  go_wp2_with fail
                  refine wp_region_quiet_lit (by kernel_rfl) (by kernel_rfl) ?_
                  repeat (first | go_big_quiet_skip | quiet_step (fail))
                  refine wpQuiet_nil ?_
                  intro _ hqq
                  obtain ⟨nq, hq2⟩ := hqq
                  subst hq2
                  clear b0 b1 t0 t1
                  go_wp2
                  go_roundw
                  case measure => simp [intOf]; have := HJK.out; omega
                  case rel => exact ⟨k + 1, n2 + nq, by rw [HJK.out], by omega, by rw [hsm.out], rfl⟩
                · have hne := text_ne e2
                  have hsm : Hid (s = b + (cntT (z, m2) (W.take (k + 2)) : Int) * c) := Lib.hid (by rw [HCT.out, if_neg (fun h => e2 h.2), ← HS.out]; simp)
                  go_wp2_with fail
                  refine wp_region_quiet_lit (by kernel_rfl) (by kernel_rfl) ?_
                  repeat (first | go_big_quiet_skip | quiet_step (fail))
                  refine wpQuiet_nil ?_
                  intro _ hqq
                  obtain ⟨nq, hq2⟩ := hqq
                  subst hq2
                  clear b0 b1 t0 t1
                  go_wp2
                  go_roundw
                  case measure => simp [intOf]; have := HJK.out; omega
                  case rel => exact ⟨k + 1, n2 + nq, by rw [HJK.out], by omega, by rw [hsm.out], rfl⟩
              · have hne := text_ne e1
                have hsm : Hid (s = b + (cntT (m1, m2) (W.take (k + 2)) : Int) * c) := Lib.hid (by rw [HCT.out, if_neg (fun h => e1 h.1), ← HS.out]; simp)
                go_wp2_with fail
                refine wp_region_quiet_lit (by kernel_rfl) (by kernel_rfl) ?_
                repeat (first | go_big_quiet_skip | quiet_step (fail))
                refine wpQuiet_nil ?_
                intro _ hqq
                obtain ⟨nq, hq2⟩ := hqq
                subst hq2
                clear b0 b1 t0 t1
                go_wp2
                go_roundw
                case measure => simp [intOf]; have := HJK.out; omega
                case rel => exact ⟨k + 1, n2 + nq, by rw [HJK.out], by omega, by rw [hsm.out], rfl⟩
            · have hlastI : ¬ (j : Int) < (l : Int) := by omega
              have HEQ : Hid (cntW (m1, m2) (WW.take (i + 1)) (C.take (i + 1)) = s) := Lib.hid (by
                rw [HNX.out, if_pos HCP.out, ← HS.out, List.take_of_length_le (by rw [HL.out]; have := HJK.out; omega)])
              go_wp2
              go_roundw
              case measure => simp [intOf]; omega
              case rel => exact ⟨i + 1, n + n2, by simp, by rw [HN.out]; omega, by rw [HEQ.out], by rw [HWR.out, World.drewN_drewN]⟩
      · have hgcI : ¬ (i : Int) < (NC : Int) := by omega
        have HEQ : Hid (cntW (m1, m2) WW C = b) := Lib.hid (by rw [← HB.out, cntW_all (.inr (by rw [HNC.out]; omega))])
        go_wp2
        go_ret
        exact ⟨by rw [HEQ.out]; rfl, n, by rw [HWR.out, HW1.out]⟩
    · have hgoI : ¬ (i : Int) < (N : Int) := by omega
      have HEQ : Hid (cntW (m1, m2) WW C = b) := Lib.hid (by rw [← HB.out, cntW_all (.inl (by rw [HN.out]; omega))])
      go_wp2
      go_ret
      exact ⟨by rw [HEQ.out]; rfl, n, by rw [HWR.out, HW1.out]⟩
end Go.Proofs.YtnmacalbbmeedaaGreat
/- The best merge, as plain lists: what has been seen, and which is the best of it. -/
namespace Go.Proofs.YtnmacalbbmeedaaGreat
open Go.RowKit

/-- The best of what was seen. -/
def BestIn (WW : List (List ByteArray)) (C : List Int) (S : List Mg) (b : Mg) (n : Int) : Prop :=
  (S = [] ∧ b = noM ∧ n = 0) ∨ (b ∈ S ∧ 1 ≤ n ∧ cntW b WW C = n ∧ ∀ m ∈ S, cntW m WW C ≤ n ∧ (cntW m WW C = n → m ≠ b → aheadM b m = true))
/-- Just those are seen that stand ahead of place k of word i. -/
def SeenTo (WW : List (List ByteArray)) (C : List Int) (S : List Mg) (i : Nat) (w : List ByteArray) (k : Nat) : Prop := ∀ m, m ∈ S ↔ (1 ≤ cntW m (WW.take i) (C.take i) ∨ 1 ≤ cntT m (w.take (k + 1)))
variable {WW : List (List ByteArray)} {C : List Int} {S : List Mg} {b m : Mg} {n : Int} {i k : Nat} {w : List ByteArray}
set_option maxRecDepth 100000 in
theorem best_none (WW : List (List ByteArray)) (C : List Int) : BestIn WW C [] noM 0 := .inl ⟨rfl, rfl, rfl⟩
set_option maxRecDepth 100000 in
theorem BestIn.pos (h : BestIn WW C S b n) : 0 ≤ n := by rcases h with ⟨_, _, h⟩ | ⟨_, h, _⟩ <;> omega
set_option maxRecDepth 100000 in
/-- One more that is better. -/
theorem BestIn.turn (h : BestIn WW C S b n) (h1 : 1 ≤ cntW m WW C) (hb : n < cntW m WW C ∨ (cntW m WW C = n ∧ aheadM m b = true)) : BestIn WW C (S ++ [m]) m (cntW m WW C) := by
  refine .inr ⟨by simp, h1, rfl, fun m' hm' => ?_⟩
  rcases List.mem_append.1 hm' with hm' | hm'
  · rcases h with ⟨h2, _, _⟩ | ⟨h2, h3, h4, h5⟩
    · rw [h2] at hm'; simp at hm'
    · obtain ⟨a1, a2⟩ := h5 m' hm'
      rcases hb with hb | ⟨hb, hb2⟩
      · exact ⟨by omega, fun e => by omega⟩
      · refine ⟨by omega, fun e _ => ?_⟩
        by_cases e2 : m' = b
        · rw [e2]; exact hb2
        · exact aheadM_trans hb2 (a2 (by omega) e2)
  · rw [List.mem_singleton] at hm'
    rw [hm']
    exact ⟨Int.le_refl _, fun _ hne => absurd rfl hne⟩
set_option maxRecDepth 100000 in
/-- One more that isn't. -/
theorem BestIn.keep (h : BestIn WW C S b n) (h1 : 1 ≤ cntW m WW C) (hb : ¬ (n < cntW m WW C ∨ (cntW m WW C = n ∧ aheadM m b = true))) : BestIn WW C (S ++ [m]) b n := by
  rcases h with ⟨h2, h3, h4⟩ | ⟨h2, h3, h4, h5⟩
  · exact absurd (.inl (by omega)) hb
  · refine .inr ⟨List.mem_append.2 (.inl h2), h3, h4, fun m' hm' => ?_⟩
    rcases List.mem_append.1 hm' with hm' | hm'
    · exact h5 m' hm'
    · rw [List.mem_singleton] at hm'
      rw [hm']
      refine ⟨by by_cases e : n < cntW m WW C; exact absurd (.inl e) hb; omega, fun e hne => ?_⟩
      rcases aheadM_total hne with k | k
      · exact absurd (.inr ⟨e, k⟩) hb
      · exact k
set_option maxRecDepth 100000 in
/-- At the end. -/
theorem BestIn.best (h : BestIn WW C S b n) (hs : ∀ m, m ∈ S ↔ 1 ≤ cntW m WW C) : BestRel WW C b n := by
  rcases h with ⟨h2, h3, h4⟩ | ⟨h2, h3, h4, h5⟩
  · refine .inl ⟨h4, h3, fun m' => ?_⟩
    have h6 := (cntW_le m' WW C).1
    by_cases e : 1 ≤ cntW m' WW C
    · have := (hs m').2 e; rw [h2] at this; simp at this
    · omega
  · refine .inr ⟨h3, h4, fun m' => ?_⟩
    by_cases e : 1 ≤ cntW m' WW C
    · exact h5 m' ((hs m').2 e)
    · exact ⟨by omega, fun e2 => by omega⟩
set_option maxRecDepth 100000 in
theorem seen_start (WW : List (List ByteArray)) (C : List Int) (w : List ByteArray) : SeenTo WW C [] 0 w 0 := fun m => by
  rw [tcnt_take_one]
  simp [cntW]
set_option maxRecDepth 100000 in
/-- A pair that stands there. -/
theorem SeenTo.more (h : SeenTo WW C S i w k) (hk : k + 1 < w.length) (S' : List Mg) (hS : ∀ m, m ∈ S' ↔ m ∈ S ∨ m = (w[k]'(by omega), w[k + 1])) : SeenTo WW C S' i w (k + 1) := fun m => by
  rw [hS, h m, tcnt_take hk]
  have e : m = (w[k]'(by omega), w[k + 1]) ↔ (w[k]'(by omega) = m.1 ∧ w[k + 1] = m.2) := ⟨fun e => by rw [e]; exact ⟨rfl, rfl⟩, fun e => Prod.ext e.1.symm e.2.symm⟩
  rw [e]
  constructor
  · rintro ((h | h) | h)
    · exact .inl h
    · exact .inr (by omega)
    · exact .inr (by rw [if_pos h]; omega)
  · rintro (h | h)
    · exact .inl (.inl h)
    · by_cases e : w[k]'(by omega) = m.1 ∧ w[k + 1] = m.2
      · exact .inr e
      · rw [if_neg e] at h; exact .inl (.inr (by omega))
set_option maxRecDepth 100000 in
/-- A word is at its end. -/
theorem SeenTo.next (hi : i < WW.length) (hc : i < C.length) (hC : 1 ≤ C[i]) (h : SeenTo WW C S i WW[i] k) (hk : WW[i].length ≤ k + 1) (w' : List ByteArray) : SeenTo WW C S (i + 1) w' 0 := fun m => by
  rw [h m, cntW_next hi hc, if_pos hC, tcnt_take_one, List.take_of_length_le hk]
  have h1 := (cntW_le m (WW.take i) (C.take i)).1
  constructor
  · rintro (h | h)
    · have : 0 ≤ (cntT m WW[i] : Int) * C[i] := Int.mul_nonneg (by omega) (by omega)
      exact .inl (by omega)
    · have : 1 * C[i] ≤ (cntT m WW[i] : Int) * C[i] := Int.mul_le_mul_of_nonneg_right (by omega) (by omega)
      exact .inl (by omega)
  · rintro (h | h)
    · by_cases e : cntT m WW[i] = 0
      · rw [e] at h; exact .inl (by simpa using h)
      · exact .inr (by omega)
    · omega
set_option maxRecDepth 100000 in
/-- A word that plays no part. -/
theorem SeenTo.skip (hi : i < WW.length) (hc : i < C.length) (hC : C[i] < 1) (h : SeenTo WW C S i w 0) (w' : List ByteArray) : SeenTo WW C S (i + 1) w' 0 := fun m => by
  rw [h m, cntW_next hi hc, if_neg (by omega), tcnt_take_one, tcnt_take_one]
  simp
set_option maxRecDepth 100000 in
theorem SeenTo.end (hi : WW.length ≤ i ∨ C.length ≤ i) (h : SeenTo WW C S i w 0) : ∀ m, m ∈ S ↔ 1 ≤ cntW m WW C := fun m => by
  rw [h m, tcnt_take_one, cntW_all hi]
  simp
set_option maxRecDepth 100000 in
theorem SeenTo.word (h : SeenTo WW C S i w 0) (w' : List ByteArray) : SeenTo WW C S i w' 0 := fun m => by
  rw [h m, tcnt_take_one, tcnt_take_one]
set_option maxRecDepth 100000 in
/-- What stands in a word is counted. -/
theorem stands_cnt (hi : i < WW.length) (hc : i < C.length) (hC : 1 ≤ C[i]) (hk : k + 1 < WW[i].length) : 1 ≤ cntW (WW[i][k]'(by omega), WW[i][k + 1]) WW C := by
  have h1 := cntW_split (WW[i][k]'(by omega), WW[i][k + 1]) WW C (i + 1)
  have h2 := cntW_next (m := (WW[i][k]'(by omega), WW[i][k + 1])) hi hc
  have h3 := (cntW_le (WW[i][k]'(by omega), WW[i][k + 1]) (WW.take i) (C.take i)).1
  have h4 := (cntW_le (WW[i][k]'(by omega), WW[i][k + 1]) (WW.drop (i + 1)) (C.drop (i + 1))).1
  have h5 := tcnt_take (m := (WW[i][k]'(by omega), WW[i][k + 1])) hk
  rw [if_pos ⟨rfl, rfl⟩] at h5
  have h6 : cntT (WW[i][k]'(by omega), WW[i][k + 1]) (WW[i].take (k + 2)) ≤ cntT (WW[i][k]'(by omega), WW[i][k + 1]) WW[i] := by
    have : ∀ (m : Mg) (w : List ByteArray) (j : Nat), cntT m (w.take j) ≤ cntT m w := by
      intro m w
      induction w with
      | nil => intro j; simp
      | cons x r ih =>
        intro j
        cases j with
        | zero => simp [cntT]
        | succ j =>
          cases r with
          | nil => simp [cntT]
          | cons y r =>
            cases j with
            | zero => simp [cntT]
            | succ j =>
              have := ih (j + 1)
              simp only [List.take_succ_cons] at *
              unfold cntT
              omega
    exact this _ _ _
  rw [if_pos hC] at h2
  have h7 : 1 * C[i] ≤ (cntT (WW[i][k]'(by omega), WW[i][k + 1]) WW[i] : Int) * C[i] := Int.mul_le_mul_of_nonneg_right (by omega) (by omega)
  omega
end Go.Proofs.YtnmacalbbmeedaaGreat
/- Adding words, as the document says it, on plain lists. -/
namespace Go.Proofs.YtnmacalbbmeedaaGreat

/-- A word that is there so many times more; else an error's number. -/
def addW (L : Bag) (s : ByteArray) (n : Int) : Bag × Int :=
  if s.size = 0 ∨ n < 1 then (L, 1) else if countOf L s + n ≤ 9223372036854775807 then (putW s (countOf L s + n) L, 0) else (L, 5)
/-- A counter's words: rising, counts within. -/
def Sound (L : Bag) : Prop := Rising L ∧ ∀ p ∈ L, 1 ≤ p.2 ∧ p.2 ≤ 9223372036854775807 ∧ p.1.size ≤ 9223372036854775807
set_option maxRecDepth 100000 in
theorem Sound.count {L : Bag} (h : Sound L) (s : ByteArray) : 0 ≤ countOf L s ∧ countOf L s ≤ 9223372036854775807 := by
  rcases countOf_cases L s with ⟨h1, _⟩ | h1
  · rw [h1]; omega
  · have := h.2 _ h1
    simp only at this; omega
set_option maxRecDepth 100000 in
theorem Sound.add {L : Bag} (h : Sound L) {s : ByteArray} (n : Int) (hs : s.size ≤ 9223372036854775807) : Sound (addW L s n).1 := by
  unfold addW
  split
  · exact h
  · split
    · refine ⟨rising_putW h.1, fun p hp => ?_⟩
      rcases (mem_putW h.1 p).1 hp with rfl | ⟨k, _⟩
      · have := h.count s
        exact ⟨by simp only; omega, by simp only; omega, hs⟩
      · exact h.2 p k
    · exact h
end Go.Proofs.YtnmacalbbmeedaaGreat
