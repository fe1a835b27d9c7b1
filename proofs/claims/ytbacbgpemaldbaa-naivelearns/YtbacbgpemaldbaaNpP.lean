/- How often each couple is there: the program's couples, walked. -/
import Derived.Test.YtbacbgpemaldbaaNpO
import Derived.Deep.RegionHeld3
namespace Go.Proofs.Ytbacbgpemaldbaa
open Go.RowKit

set_option maxRecDepth 100000 in
theorem np_min (N NC K : Nat) (h : K = min N NC) (w : World) : (Builtin.min_ #[3, 3] 3 #[.int .i64 (N : Int), .int .i64 (NC : Int)]).run Try.prog w = .ok (.int .i64 (K : Int)) w := by
  rw [run_min_int2]
  by_cases e : (NC : Int) < (N : Int)
  · rw [if_pos e, show K = NC by omega]
  · rw [if_neg e, show K = N by omega]
set_option maxRecDepth 100000 in
set_option maxHeartbeats 8000000 in
theorem couples_any (x y : Value) (WW : List (List ByteArray)) (C : List Int) (w : World) (hx : rowsT w x WW) (hy : eltsAt intE w y C) (hyn : nilNone y) (hyc : ∀ a n c, y = .slice a n c → n ≤ c) (hl : WW.length ≤ 1000000) (hCl : C.length ≤ 9223372036854775807) (hall : allT WW ≤ 1000000) (hcap : capW WW C ≤ 9223372036854775807) (hsz : ∀ W ∈ WW, ∀ t ∈ W, t.size ≤ 1000000) :
    Calls Try.prog 23 #[x, y] w fun e w' => CoRet WW C w e w' := by
  obtain ⟨a, cx, rfl⟩ := hx.form
  obtain ⟨ay, cy, rfl, _⟩ := id hy
  obtain ⟨N, hN⟩ : ∃ N, WW.length = N := ⟨_, rfl⟩
  obtain ⟨NC, hNC⟩ : ∃ N, C.length = N := ⟨_, rfl⟩
  obtain ⟨K, hK⟩ : ∃ K, K = min N NC := ⟨_, rfl⟩
  have hle := hyc _ _ _ rfl
  rw [hNC] at hle hyn hy hCl
  rw [hN] at hx hl
  obtain ⟨v, hrun, _, hel⟩ := ints_head ay NC cy K (K : Int) rfl (by omega) hyn
  have he := hel w C hy (by omega)
  have hmin := np_min N NC K hK
  obtain ⟨av, cv, rfl, _⟩ := id he
  have hlk : (C.take K).length = K := by rw [List.length_take]; omega
  rw [hlk] at hrun he
  rw [hN, hNC]
  have hln : ∀ i (h : i < WW.length), WW[i].length ≤ 1000000 := fun i h => by
    have h1 := all_take h
    have h2 := all_take_le WW (i + 1)
    omega
  obtain ⟨b, hb⟩ : ∃ b, w.heap.size = b := ⟨_, rfl⟩
  obtain ⟨w0, hw0⟩ : ∃ w0, w.alloc (.map #[] 0) = w0 := ⟨_, rfl⟩
  have HST : Hid (CoRel1 WW C w b K (.int .i64 ((0 : Nat) : Int)) w0) := Lib.hid ⟨0, 0, rfl, Nat.zero_le _, by rw [← hw0, ← hb]; exact comap_made w, Nat.zero_le _, by rw [← hw0]; exact (Below.refl _ w).alloc (Nat.le_refl _) _⟩
  have HX := Lib.hid hx
  have HE := Lib.hid he
  have HN := Lib.hid hN
  have HNC := Lib.hid hNC
  have HK := Lib.hid hK
  have HLN := Lib.hid hln
  have HCAP := Lib.hid hcap
  have HALL := Lib.hid hall
  have HSZ := Lib.hid hsz
  have HB := Lib.hid hb
  have hKl : (K : Int) ≤ 1000000 := by omega
  have hmm : (Instr.makeMap 55 none).run Try.prog w = .ok (.map (some b)) w0 := by rw [run_makeMap, hb, hw0]
  clear hx hy hyn hyc hN hNC hK hln hcap hall hsz hel he hlk hle hl hCl
  go_enter Try.func23, Try.ntmps23
  go_wp2
  go_loopw [19] (fun i wr => CoRel1 WW C w b K i wr) (fun i _ => K - (intOf i).toNat)
  case atStart => exact HST.out
  case round =>
    clear HST hw0 hb hmm
    obtain ⟨i, M, rfl, hi, hm, hM, hbel⟩ := hrel
    have HMP := Lib.hid hm; have HM := Lib.hid hM; have HBE := Lib.hid hbel
    clear hm hM hbel
    by_cases hgo : i < K
    · have hgoI : (i : Int) < (K : Int) := by omega
      have hiW : i < WW.length := by rw [HN.out]; have := HK.out; omega
      have hiC : i < C.length := by rw [HNC.out]; have := HK.out; omega
      obtain ⟨ac, rfl⟩ : ∃ ad, av = some ad := by
        obtain ⟨_, _, e1, hc⟩ := HE.out
        obtain ⟨ad, e2, _⟩ := hc i (by rw [List.length_take]; omega)
        exact ⟨ad, (Value.slice.inj e1).1.trans e2⟩
      obtain ⟨c, hc⟩ : ∃ c, C[i] = c := ⟨_, rfl⟩
      have c0 : wr.cell? (ac.add i) = some (.int .i64 c) := by
        have := ints_cell HE.out HBE.out (k := i) (by rw [List.length_take]; omega)
        rw [this, List.getElem_take, hc]
      have HC := Lib.hid hc
      have hwi : IntKind.i64.wrap ((i : Int) + 1) = (i : Int) + 1 := IntWalk.i64_in _ (by omega)
      by_cases hc1 : c < 1
      · have HSK : Hid (CoRel1 WW C w b K (.int .i64 ((i + 1 : Nat) : Int)) wr) := Lib.hid ⟨i + 1, M, rfl, hgo, by rw [cog_skip hiW hiC (by rw [hc]; exact hc1)]; exact HMP.out, by have := HM.out; rw [all_take hiW]; omega, HBE.out⟩
        clear hc
        go_wp2
        go_roundw
        case rel => exact HSK.out
        case measure => simp [intOf]; omega
      · have HC1 : Hid (1 ≤ C[i]) := Lib.hid (by rw [hc]; omega)
        have hX := HX.out
        rw [← HN.out] at hX
        obtain ⟨ad, ai, ci, rfl, hrow⟩ := hX.row hiW
        obtain ⟨W, hW⟩ : ∃ W, WW[i] = W := ⟨_, rfl⟩
        have hlw := HLN.out i hiW
        obtain ⟨l, hl⟩ : ∃ l, W.length = l := ⟨_, rfl⟩
        rw [hW, hl] at hrow
        rw [hW, hl] at hlw
        obtain ⟨r0, _⟩ := hrow wr HBE.out
        have HROW := Lib.hid hrow
        have HW := Lib.hid hW
        have HL := Lib.hid hl
        have HST2 : Hid (CoRel2 WW C w b (allT (WW.take i)) i l W c (.int .i64 ((1 : Nat) : Int)) wr) := Lib.hid ⟨1, M, rfl, Nat.le_refl _, .inr rfl, by rw [cof_one]; exact HMP.out, by have := HM.out; omega, HBE.out⟩
        have hiN : (i : Int) < (N : Int) := by have := HK.out; omega
        clear hX hrow hW hl hc
        go_wp2
        go_loopw [9] (fun x wr => CoRel2 WW C w b (allT (WW.take i)) i l W c x wr) (fun x _ => l + 1 - (intOf x).toNat)
        case atStart => exact HST2.out
        case round =>
          clear HST2 r0 c0 HMP HBE
          obtain ⟨j, Q, rfl, hj1, hjl, hm, hQ, hbel⟩ := hrel
          have HMP := Lib.hid hm; have HQ := Lib.hid hQ; have HBE := Lib.hid hbel
          clear hm hQ hbel
          by_cases hgj : j < l
          · have hgjI : (j : Int) < (l : Int) := by omega
            obtain ⟨k, rfl⟩ : ∃ k, j = k + 1 := ⟨j - 1, by omega⟩
            have hkW : k + 1 < W.length := by rw [HL.out]; exact hgj
            have hkA := all_take hiW
            have hkB := all_take_le WW (i + 1)
            obtain ⟨w2, w3, v0, st, g, hg, R, hrel2, hwg⟩ := co_adds (w := w) hiW hiC HC1.out HW.out HC.out hkW HMP.out HQ.out HCAP.out (by have := HQ.out; have := HALL.out; rw [HW.out, HL.out] at hkA; omega) ⟨by have := HSZ.out W (by rw [← HW.out]; exact List.getElem_mem _) (W[k]) (List.getElem_mem _); unfold maxLen; simp only; omega, by have := HSZ.out W (by rw [← HW.out]; exact List.getElem_mem _) (W[k + 1]) (List.getElem_mem _); unfold maxLen; simp only; omega⟩ (by rw [HB.out]; exact Nat.le_refl _) HBE.out HL.out
            have HREL := Lib.hid hrel2
            obtain ⟨ti, rfl⟩ : ∃ ti, ai = some ti := by
              obtain ⟨_, _, e1, hcc⟩ := (HROW.out wr HBE.out).2
              obtain ⟨ti, e2, _⟩ := hcc k (by omega)
              exact ⟨ti, (Value.slice.inj e1).1.trans e2⟩
            have hbD : Below w.heap.size w wr.drew := HBE.out.trans ((Below.refl _ wr).drew.mono HBE.out.size)
            have hrD := (HROW.out wr.drew hbD).2
            rw [← HL.out] at hrD
            have t0 := txt_cell hrD (Below.refl _ _) (k := k) (by omega)
            have t1 := txt_cell hrD (Below.refl _ _) (k := k + 1) hkW
            obtain ⟨s0, hs0⟩ : ∃ s, W[k] = s := ⟨_, rfl⟩
            obtain ⟨s1, hs1⟩ : ∃ s, W[k + 1] = s := ⟨_, rfl⟩
            have l1 := R.look; have l2 := R.entry; have l3 := R.look2; have l4 := R.store
            rw [hg] at l1 l3 l4
            unfold kv at l1 l2 l3
            rw [hs0, hs1] at l1 l2 l3
            rw [hs0] at t0
            rw [hs1] at t1
            simp only [goInt] at l1 l2 l3 l4
            have hwk : IntKind.i64.wrap ((k : Int)) = (k : Int) := IntWalk.i64_in _ (by omega)
            obtain ⟨m, hm⟩ : ∃ m : Nat, k + 1 = m := ⟨_, rfl⟩
            have HJM := Lib.hid hm
            rw [hm] at t1
            have hkm : (m : Int) - 1 = (k : Int) := by omega
            have hm0 : (0 : Int) ≤ (m : Int) := by omega
            have hml : (m : Int) < (l : Int) := by omega
            have hkl : (k : Int) < (l : Int) := by omega
            have hwm : IntKind.i64.wrap ((m : Int) + 1) = (m : Int) + 1 := IntWalk.i64_in _ (by omega)
            have hne : ti.block ≠ b := by
              obtain ⟨_, _, e1, hcc⟩ := (HROW.out w (Below.refl _ _)).2
              obtain ⟨ti', e2, h3, _⟩ := hcc k (by omega)
              have e3 := (Value.slice.inj e1).1.trans e2
              cases e3
              have := HB.out
              omega
            have e0 : w2.cell? (ti.add k) = some (.string s0) := (np_turned_cell R.turn2 _ (by rw [add_block]; exact hne)).trans t0
            have e1 : w2.cell? (ti.add m) = some (.string s1) := (np_turned_cell R.turn2 _ (by rw [add_block]; exact hne)).trans t1
            obtain ⟨wd, hwd⟩ : ∃ wd, wr.drew = wd := ⟨_, rfl⟩
            rw [hwd] at t0 t1 l1 l2
            clear R hg hs0 hs1 hrD hrel2 hkA hkB hjl hm hne hbD hgjI
            rw [HJM.out]
            go_wp2_with fail
            go_region
            all_goals (go_wp2_with fail)
            all_goals go_roundw
            all_goals first
              | (case rel => have h := HREL.out; rw [show ((k + 2 : Nat) : Int) = (m : Int) + 1 by have := HJM.out; omega] at h; exact h)
              | (case measure => simp [intOf]; omega)
          · have hgjI : ¬ (j : Int) < (l : Int) := by omega
            have HEX : Hid (CoRel1 WW C w b K (.int .i64 ((i + 1 : Nat) : Int)) wr) := Lib.hid ⟨i + 1, Q, rfl, hgo, by
              have h1 := HMP.out
              rw [← HW.out, ← HC.out, cof_end hiW hiC HC1.out (by rw [HW.out, HL.out]; omega)] at h1
              exact h1, by have := HQ.out; rw [all_take hiW, HW.out, HL.out]; omega, HBE.out⟩
            go_wp2
            go_roundw
            case rel => exact HEX.out
            case measure => simp [intOf]; omega
    · have hgoI : ¬ (i : Int) < (K : Int) := by omega
      have HEND : Hid (CoMap wr b M (fun m => cntW m WW C)) := Lib.hid (by rw [← cog_all (K := i) (by rw [HN.out, HNC.out]; have := HK.out; omega)]; exact HMP.out)
      go_wp2
      go_ret
      exact ⟨b, M, rfl, HEND.out, by rw [HB.out]; exact Nat.le_refl _, HBE.out⟩
end Go.Proofs.Ytbacbgpemaldbaa
