/- The program's Learn, walked. -/
import Derived.Test.YtbacbgpemaldbaaNpL
import Derived.Test.YtbacbgpemaldbaaNvA
namespace Go.Proofs.Ytbacbgpemaldbaa
open Go.RowKit

set_option maxRecDepth 100000 in
theorem rowsG.mono {w : World} {base base' g : Nat} {WW : List (List ByteArray)} (h : rowsG w base g WW) (hb : base' ≤ base) : rowsG w base' g WW := by
  obtain ⟨h0, E, h1, h2, h3⟩ := h
  exact ⟨Nat.le_trans hb h0, E, h1, h2, fun i a b => (h3 i a b).mono hb⟩
set_option maxRecDepth 100000 in
set_option maxHeartbeats 16000000 in
theorem plearn_any (x : Value) (L : Bag) (budget least : Int) (w : World) (hx : wordsAt w x L) (hL : L.length ≤ 1000000) (hf : Fits L) (hb : bytesOf L ≤ 500000) :
    Calls Try.prog 8 #[x, .int .i64 budget, .int .i64 least] w fun e w' => LpRet L budget least w e w' := by
  have cK := check_any x L w hx hL hf
  obtain ⟨N, hN⟩ : ∃ N, L.length = N := ⟨_, rfl⟩
  obtain ⟨er, her⟩ : ∃ er, (checkOf L).2 = er := ⟨_, rfl⟩
  obtain ⟨ep, hep⟩ : ∃ er, (checkOf L).1 = er := ⟨_, rfl⟩
  rw [her, hep] at cK
  have HX := Lib.hid hx
  have HN := Lib.hid hN
  have HER := Lib.hid her
  have HBY := Lib.hid hb
  have HL := Lib.hid hL
  have hNl : N ≤ 1000000 := by omega
  clear hx hN hf her hep hb hL
  go_enter Try.func8, Try.ntmps8
  go_wp2_with fail
  refine cK.mono ?_
  rintro e w1 ⟨rfl, hb1⟩
  clear cK
  have HB1 := Lib.hid hb1
  clear hb1
  by_cases he0 : er = 0
  · subst he0
    by_cases hd : least < 1
    · go_wp2
      go_ret
      exact ⟨_, [], rfl, ownE.nil _ _, HB1.out, fun _ => rfl, fun _ h => by omega⟩
    · have HCAP := Lib.hid (right_cap HER.out)
      have HD : Hid (1 ≤ least) := Lib.hid (by omega)
      have cB := begin_any x L w1 (HX.out.below HB1.out (Nat.le_refl _)) HL.out HBY.out
      go_wp2_with fail
      refine cB.mono ?_
      rintro e w2 ⟨g, gc, rfl, hrw, hrc, hlo, hb2⟩
      rw [HN.out]
      have hs1 := HB1.out.size
      have HST : Hid (LpRel2 L budget least w g gc (budget - 0).toNat (.slice none 0 0) w2) := Lib.hid ⟨[], ⟨ownE.nil _ _, hrw.mono hs1, hrc, HB1.out.trans (hb2.mono hs1), Nat.le_trans hs1 hlo, fun i h => by simp at h⟩, by show (0 : Int) ≤ max budget 0; omega, rfl⟩
      clear cB hrw hrc hlo hb2 hs1
      go_wp2
      go_loopg [11] (budget - 0).toNat (fun gh vO wr => LpRel2 L budget least w g gc gh vO wr)
      case atStart => exact HST.out
      case round =>
        clear HST
        obtain ⟨ms, hst, hml, hgk⟩ := hrel
        have HST := Lib.hid hst
        have HML := Lib.hid hml
        have HGK := Lib.hid hgk
        have hsh := learned_short (C := countsOf L) HD.out hst.each ms.length (Nat.le_refl _)
        rw [start_all] at hsh
        have HSH : Hid (ms.length ≤ 500000) := Lib.hid (by have := HBY.out; omega)
        obtain ⟨oa, oc, eo, _⟩ := hst.out.form
        subst eo
        clear hst hml hgk hsh
        by_cases hlt : (ms.length : Int) < budget
        · have hwt := HST.out.words.reads (by rw [runT_len, startW_len, HN.out]; unfold maxLen; omega)
          have hct := (HST.out.counts.own HST.out.lo (by rw [counts_len, HN.out]; unfold maxLen; omega)).reads
          rw [runT_len, startW_len, HN.out] at hwt
          rw [counts_len, HN.out] at hct
          have cB := best_any (.slice (some ⟨g, 0, none⟩) N N) (.slice (some ⟨gc, 0, none⟩) N N) (runT (startW L) ms) (countsOf L) wr hwt hct (someNone _ _ _) (fun a n c e => by cases e; exact Nat.le_refl _) (by rw [runT_len, startW_len, HN.out]; omega) (by rw [counts_len, HN.out]; omega) (by have := all_run ms (startW L); rw [start_all] at this; have := HBY.out; omega) (Int.le_trans (cap_run ms _ _) HCAP.out) (run_small (by have := HBY.out; omega) ms)
          clear hwt hct
          go_wp2_with fail
          refine cB.mono ?_
          rintro e w2 ⟨b, nb, hbr, rfl, hb2⟩
          obtain ⟨bl, br⟩ := b
          have HST2 := Lib.hid (HST.out.below hb2)
          have HBR := Lib.hid hbr
          obtain ⟨M, hM⟩ : ∃ M, w2.heap.size = M := ⟨_, rfl⟩
          obtain ⟨wb, hwb⟩ : ∃ wb, w2.alloc (.cells #[.string bl, .string br] 33) = wb := ⟨_, rfl⟩
          have hbx : wb.heap[M]? = some (.cells #[.string bl, .string br] 33 (0, 0)) := by rw [← hwb, ← hM]; exact heap_alloc_new w2 _
          have hsb := HST2.out.below (show Below w2.heap.size w2 wb by rw [← hwb]; exact (Below.refl _ w2).alloc (Nat.le_refl _) _)
          have HSB := Lib.hid hsb
          have HBX := Lib.hid hbx
          have hmo : (Value.slice oa ms.length oc).ownBlock ≠ some M := fun e => by have := (HST2.out.out.lt M e).2; omega
          have HMO := Lib.hid hmo
          obtain ⟨q0, q1⟩ := two_cells hbx
          clear cB hbr hb2 hbx hsb hmo
          by_cases hn : nb < least
          · go_wp2
            go_ret
            exact ⟨_, ms, rfl, HSB.out.out, HSB.out.bel, fun h => absurd h (by have := HD.out; have := HER.out; omega), fun _ _ => ⟨HSB.out.each, HML.out, .inr ⟨_, nb, HBR.out, hn⟩⟩⟩
          · have HA := Lib.hid (HSB.out.below ((Below.refl _ wb).alloc (Nat.le_refl _) (.cells #[.string bl, .string br] 33)))
            have HE : Hid (eltsAt mergeE (wb.alloc (.cells #[.string bl, .string br] 33)) (.slice (some ⟨wb.heap.size, 0, none⟩) 1 1) [(bl, br)]) := Lib.hid (one_elt mergeE wb (bl, br))
            have HBA : Hid ((wb.alloc (.cells #[.string bl, .string br] 33)).heap[M]? = some (.cells #[.string bl, .string br] 33 (0, 0))) := Lib.hid ((Below.heap_alloc _ _ _ (Array.getElem?_eq_some_iff.1 HBX.out).1).trans HBX.out)
            go_wp2_with (at_builtin
                         refine wpList_append_elts mergeE rfl (.tmp 45) (.tmp 47) rfl w.heap.size (.slice oa ms.length oc) _ ms [(bl, br)] rfl rfl HA.out.out HE.out (someNone _ _ _) (by have := HSH.out; simp only [List.length_singleton]; omega) (by have := HSB.out.bel.size; rw [World.size_alloc]; omega) ?_
                         intro r6 w6 ho6 hg6 _
                         have HI0 : Hid (LpRel3 L w M (bl, br) g gc r6 ms (.int .i64 0) w6) := Lib.hid ⟨0, rfl, Nat.zero_le _, HA.out.app HBA.out HMO.out ho6 hg6⟩
                         clear ho6 hg6 q0 q1)
            go_loopw [51] (fun x wr => LpRel3 L w M (bl, br) g gc r6 ms x wr) (fun x _ => N - (intOf x).toNat)
            case atStart => exact HI0.out
            case round =>
              clear HI0
              obtain ⟨i, rfl, hi, hI⟩ := hrel
              rw [HN.out] at hi
              have HI := Lib.hid hI
              clear hI
              by_cases hik : i < N
              · have hikI : (i : Int) < (N : Int) := by omega
                have hiR : i < (runT (startW L) ms).length := by rw [runT_len, startW_len, HN.out]; exact hik
                have hmx := mixJ_len (bl, br) (runT (startW L) ms) (i := i) (by omega)
                have hiM : i < (mixJ (bl, br) (runT (startW L) ms) i).length := by rw [hmx]; exact hiR
                have hRd := HI.out.words.reads (by rw [hmx, runT_len, startW_len, HN.out]; unfold maxLen; omega)
                obtain ⟨ad, ai, ci, eai, hrow⟩ := hRd.row hiM
                obtain rfl := Option.some.inj eai
                rw [mixJ_at hiR hiM] at hrow
                obtain ⟨WI, hWI⟩ : ∃ W, (runT (startW L) ms)[i] = W := ⟨_, rfl⟩
                rw [hWI] at hrow
                obtain ⟨r0, r1⟩ := hrow wr (Below.refl _ _)
                rw [add_zero_off] at r0
                obtain ⟨q0, q1⟩ := two_cells HI.out.box
                have hwi : IntKind.i64.wrap ((i : Int) + 1) = (i : Int) + 1 := IntWalk.i64_in _ (by omega)
                have hsm := run_small (L := L) (Nat.le_refl _) ms
                have hWm : WI ∈ runT (startW L) ms := by rw [← hWI]; exact List.getElem_mem _
                have hwl : WI.length ≤ 500000 := by
                  have h1 := all_take hiR
                  have h2 := all_take_le (runT (startW L) ms) (i + 1)
                  have h3 := all_run ms (startW L)
                  rw [start_all] at h3
                  rw [hWI] at h1
                  have := HBY.out
                  omega
                have hbz : bl.size + br.size ≤ 1000000 := by
                  obtain ⟨W', hW', hc'⟩ := HBR.out.some (by have := HD.out; omega)
                  obtain ⟨P, Q, e⟩ := cnt_stands hc'
                  have h1 := hsm W' hW' bl (by rw [e]; simp)
                  have h2 := hsm W' hW' br (by rw [e]; simp)
                  have := HBY.out
                  omega
                have cJ := pjoin_any (bl, br) (.slice ai WI.length ci) WI wr r1 (by omega) hbz (fun t ht => by have := hsm WI hWm t ht; have := HBY.out; omega)
                have HWI := Lib.hid hWI
                have HIR := Lib.hid hiR
                simp only at q0 q1 cJ
                clear hmx hiM hRd hrow r1 hWI hsm hWm hwl hbz
                go_wp2_with fail
                refine cJ.mono ?_
                rintro e w3 ⟨r, rfl, hr, hb3⟩
                obtain ⟨ra, rc, rfl, _⟩ := hr.form
                have hI1 := HI.out.below hb3
                have hrb := hr.mono (b' := w.heap.size) HI.out.bel.size
                obtain ⟨⟨y0, hy0⟩, f0⟩ := hI1.words.cell (i := i) (by rw [mixJ_len _ _ (by have := HIR.out; omega)]; exact HIR.out)
                have HI2 := Lib.hid (hI1.put HIR.out HWI.out hrb)
                clear cJ hr hb3 hI1 hrb q0 q1 r0
                go_wp2
                go_roundw
                case rel => exact ⟨i + 1, by simp, by rw [HN.out]; omega, HI2.out⟩
                case measure => simp [intOf]; omega
              · have hikI : ¬ (i : Int) < (N : Int) := by omega
                have HNXT : Hid (LpS L least w g gc r6 (ms ++ [(bl, br)]) wr) := Lib.hid (by
                  have h1 := HI.out.words
                  have hl : (runT (startW L) ms).length = i := by rw [runT_len, startW_len, HN.out]; omega
                  rw [← hl, mixJ_all, ← runT_snoc] at h1
                  refine ⟨HI.out.out, h1, HI.out.counts, HI.out.bel, HST.out.lo, fun j hj => ?_⟩
                  by_cases e : j < ms.length
                  · obtain ⟨n, a1, a2⟩ := HST.out.each j e
                    refine ⟨n, ?_, a2⟩
                    rw [List.take_append_of_le_length (by omega), List.getElem_append_left e]
                    exact a1
                  · have e2 : j = ms.length := by simp at hj; omega
                    subst e2
                    refine ⟨nb, ?_, by omega⟩
                    rw [List.take_left', List.getElem_append_right (Nat.le_refl _)]
                    · simpa using HBR.out
                    · rfl)
                go_wp2
                go_roundg (budget - ((ms.length + 1 : Nat) : Int)).toNat
                case measure => have := HGK.out; omega
                case rel => exact ⟨ms ++ [(bl, br)], HNXT.out, by simp; omega, by simp⟩
        · have HSTOP : Hid ((ms.length : Int) = max budget 0) := Lib.hid (by have := HML.out; omega)
          go_wp2
          go_ret
          exact ⟨_, ms, rfl, HST.out.out, HST.out.bel, fun h => absurd h (by have := HD.out; have := HER.out; omega), fun _ _ => ⟨HST.out.each, HML.out, .inl HSTOP.out⟩⟩
  · go_wp2
    go_ret
    exact ⟨_, [], rfl, ownE.nil _ _, HB1.out, fun _ => rfl, fun h _ => absurd (HER.out.symm.trans h) he0⟩
set_option maxRecDepth 100000 in
/-- What was asked of the program's Learn. -/
theorem nLearns : NLearns := by
  intro x L budget least w hx hl hf hb _ _
  refine (plearn_any x L budget least w hx (by omega) hf (by omega)).mono ?_
  rintro e w' ⟨v, ms, rfl, hv, hb', h1, h2⟩
  refine ⟨v, ms, rfl, hv.reads, hb', h1, h2, fun a n c e => ?_⟩
  obtain ⟨a', c', rfl, h3⟩ := hv.form
  cases e
  exact h3
end Go.Proofs.Ytbacbgpemaldbaa
