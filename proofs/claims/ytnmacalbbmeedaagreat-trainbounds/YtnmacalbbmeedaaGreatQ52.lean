/- Texts in one: TrY, TrZ. -/
import Derived.Test.YtnmacalbbmeedaaGreatQ44
import Derived.Test.YtnmacalbbmeedaaGreatQ49
import Derived.Test.YtnmacalbbmeedaaGreatQ50
import Derived.Test.YtnmacalbbmeedaaGreatQ51
import Derived.Lib.SmallJoins
/- TrainBounds over what is asked of a learner. -/
namespace Go.Proofs.YtnmacalbbmeedaaGreat
open Go.RowKit

/-- What stands while a learner is stepped. -/
structure SbS (O : LObj) (w : World) (K : Nat) (want : List Mg) (i : Nat) (wr : World) : Prop where
  obj : ∃ S, O wr S K (want.take i) ∧ ∀ k, S k → w.heap.size ≤ k
  bel : Below w.heap.size w wr
variable {O : LObj} {w wr w' : World} {K : Nat} {want : List Mg} {i : Nat} {L : Bag} {b d : Int}
set_option maxRecDepth 100000 in
theorem SbS.below (hO : LrnOk O L b d) (h : SbS O w K want i wr) (hb : Below wr.heap.size wr w') : SbS O w K want i w' := by
  obtain ⟨S, h1, h2⟩ := h.obj
  exact ⟨⟨S, hO.kept h1 (fun k a _ => hb.block k a) hb.size, h2⟩, h.bel.trans (hb.mono h.bel.size)⟩
def SbNext (O : LObj) (w : World) (K : Nat) (want : List Mg) (i : Nat) (e : Ending) (w' : World) : Prop :=
  SbS O w K want (i + 1) w' ∧ ((∃ h : i < want.length, e = .returned (.tuple #[.agg #[.string (want[i]).1, .string (want[i]).2], .bool true])) ∨ (¬ i < want.length ∧ e = .returned (.tuple #[.agg #[.string ⟨#[]⟩, .string ⟨#[]⟩], .bool false])))
set_option maxRecDepth 100000 in
theorem SbS.next (hO : LrnOk O L b d) (hW : Learned (startW L) (countsOf L) b d want) (h : SbS O w K want i wr) (hi : i ≤ want.length) : Calls Tryz.prog 14 #[.pointer (some ⟨K, 0, none⟩)] wr (SbNext O w K want i) := by
  obtain ⟨S, h1, h2⟩ := h.obj
  refine (hO.step h1).mono ?_
  rintro e w' ⟨S', hst, hr⟩
  have hs := h.bel.size
  have hbel : Below w.heap.size w w' := Below.kept h.bel hst.kept h2 hs
  have hlo : ∀ k, S' k → w.heap.size ≤ k := fun k hk => by
    by_cases e : k < wr.heap.size
    · exact h2 k (hst.out k hk e)
    · omega
  have hl : (want.take i).length = i := by rw [List.length_take]; omega
  rcases hr with ⟨m, n, a1, a2, a3, a4, a5⟩ | ⟨a1, a2, a3⟩
  · rw [hl] at a3
    obtain ⟨hlt, e1⟩ := step_next hW a1 a2 a3
    subst e1
    refine ⟨⟨⟨S', ?_, hlo⟩, hbel⟩, .inl ⟨hlt, a4⟩⟩
    rw [List.take_succ_eq_append_getElem hlt]
    exact a5
  · rw [hl] at a1
    have hge := step_end hW a1
    refine ⟨⟨⟨S', ?_, hlo⟩, hbel⟩, .inr ⟨hge, a2⟩⟩
    rw [List.take_of_length_le (by omega : want.length ≤ i + 1)]
    rw [List.take_of_length_le (by omega : want.length ≤ i)] at a3
    exact a3
set_option maxRecDepth 100000 in
theorem SbS.words (hO : LrnOk O L b d) (h : SbS O w K want i wr) : Calls Tryz.prog 18 #[.pointer (some ⟨K, 0, none⟩)] wr fun e w' => ∃ v, e = .returned v ∧ rowsT w' v (runT (startW L) (want.take i)) ∧ Below wr.heap.size wr w' := by
  obtain ⟨S, h1, _⟩ := h.obj
  exact hO.words h1
set_option maxRecDepth 100000 in
/-- Each round takes a place away. -/
theorem round_less (hW : Learned (startW L) (countsOf L) b d want) (hd : 1 ≤ d) (hi : i < want.length) : allT (runT (startW L) (want.take (i + 1))) < allT (runT (startW L) (want.take i)) := by
  obtain ⟨n, a1, a2⟩ := hW.each i hi
  rw [List.take_succ_eq_append_getElem hi, runT_snoc]
  exact all_join_lt (a1.some (by omega))
def SbRel (O : LObj) (L : Bag) (w : World) (K R : Nat) (want : List Mg) (y x : Value) (wr : World) : Prop := ∃ i : Nat, x = .int .i64 (i : Int) ∧ i ≤ R ∧ y = .int .i64 ((allT (runT (startW L) (want.take i)) : Nat) : Int) ∧ SbS O w K want i wr
def SuRel (RR : List (List ByteArray)) (w w7 : World) (y x : Value) (wr : World) : Prop := ∃ k : Nat, x = .int .i64 (k : Int) ∧ k ≤ RR.length ∧ y = .int .i64 ((allT (RR.take k) : Nat) : Int) ∧ wr = w7 ∧ Below w.heap.size w w7
set_option maxRecDepth 100000 in
set_option maxHeartbeats 16000000 in
theorem trainBounds_over {O : Bag → Int → Int → LObj} (hT : TLearns) (hN : TNews O) (hZ : TNils) (x : Value) (b d lim : Int) (w : World) (L : Bag) (hx : wordsAt w x L) (hL : L.length ≤ 9223372036854775807) (hf : Fits L) (hb : FitsB b) (hd : FitsB d) (hlim : FitsB lim) :
    Calls Tryz.prog 5 #[x, .agg #[.int .i64 b, .int .i64 d, .int .i64 lim]] w fun e w' => e = .returned (.bool true) ∧ Below w.heap.size w w' := by
  obtain ⟨M, hM⟩ : ∃ M, w.heap.size = M := ⟨_, rfl⟩
  obtain ⟨wa, hwa⟩ : ∃ wa, w.alloc (.cells #[.int .i64 b, .int .i64 d, .int .i64 lim] 24) = wa := ⟨_, rfl⟩
  have hba : wa.heap[M]? = some (.cells #[.int .i64 b, .int .i64 d, .int .i64 lim] 24 (0, 0)) := by rw [← hwa, ← hM]; exact heap_alloc_new w _
  have hbe : Below w.heap.size w wa := by rw [← hwa]; exact (Below.refl _ w).alloc (Nat.le_refl _) _
  have hlt : M < wa.heap.size := (Array.getElem?_eq_some_iff.1 hba).1
  have HCB : Hid (∀ W, Below wa.heap.size wa W → W.cell? ⟨M, 0, none⟩ = some (.int .i64 b) ∧ W.cell? ⟨M, 1, none⟩ = some (.int .i64 d) ∧ W.cell? ⟨M, 2, none⟩ = some (.int .i64 lim)) := Lib.hid fun W hb => by
    have h := (hb.block M hlt).trans hba
    exact ⟨by rw [cell_of_row W M _ _ _ (0, 0) h]; rfl, by rw [cell_of_row W M _ _ _ (0, 0) h]; rfl, by rw [cell_of_row W M _ _ _ (0, 0) h]; rfl⟩
  have cA := tawake_any hT wa
  have HX := Lib.hid hx
  have HF := Lib.hid hf
  have HT := Lib.hid hT
  have HNW := Lib.hid hN
  have HZN := Lib.hid hZ
  have HBE := Lib.hid hbe
  have HFB := Lib.hid (And.intro hb (And.intro hd hlim))
  have HLL := Lib.hid hL
  clear hx hf hT hN hZ hba hbe hlt hb hd hlim hL
  go_enter Tryz.func5, Tryz.ntmps5
  go_wp2_with fail
  refine cA.mono ?_
  rintro e w1 ⟨rfl, hb1⟩
  have HBA1 := Lib.hid hb1
  have HB1 := Lib.hid (HBE.out.trans (hb1.mono HBE.out.size))
  have cG := tgreat_any x L w1 (HX.out.below HB1.out (Nat.le_refl _)) HLL.out
  obtain ⟨b0, b1, b2⟩ := HCB.out w1 hb1
  clear cA hb1 hwa hM
  go_wp2_with fail
  refine cG.mono ?_
  rintro e w2 ⟨g, rfl, rfl, hg⟩
  clear cG
  cases g with
  | true =>
    go_wp2
    go_ret
    exact ⟨rfl, HB1.out⟩
  | false =>
    obtain ⟨⟨h60, h300⟩, _⟩ := hg rfl
    have cN := HT.out x L b d lim w2 (HX.out.below HB1.out (Nat.le_refl _)) h60 HF.out h300 HFB.out.1 HFB.out.2.1 HFB.out.2.2
    have HFEW := Lib.hid (And.intro h60 h300)
    clear hg h60 h300
    go_wp2_with fail
    refine cN.mono ?_
    rintro e w3 ⟨v, ms, ⟨s1, s2, s3, s4, s5, s6⟩, rfl, hv, hb3, h1, h2, _⟩
    obtain ⟨z, hz⟩ : ∃ z, errT L b d lim = z := ⟨_, rfl⟩
    rw [hz] at h1 h2
    have H12 := Lib.hid (And.intro h1 h2)
    have HZ := Lib.hid hz
    obtain ⟨w4, hw4⟩ : ∃ w4, w3.alloc (.cells #[.int .i64 s1, .int .i64 s2, .int .i64 s3, .int .i64 s4, .int .i64 s5, .int .i64 s6] 29) = w4 := ⟨_, rfl⟩
    obtain ⟨B, hB⟩ : ∃ B, w3.heap.size = B := ⟨_, rfl⟩
    have h4 : w4.heap[B]? = some (.cells #[.int .i64 s1, .int .i64 s2, .int .i64 s3, .int .i64 s4, .int .i64 s5, .int .i64 s6] 29 (0, 0)) := by rw [← hw4, ← hB]; exact heap_alloc_new _ _
    have hb34 : Below w3.heap.size w3 w4 := by rw [← hw4]; exact (Below.refl _ w3).alloc (Nat.le_refl _) _
    have hb24 : Below w2.heap.size w2 w4 := hb3.trans (hb34.mono hb3.size)
    have HB4 := Lib.hid (HB1.out.trans (hb24.mono HB1.out.size))
    have HBA4 := Lib.hid (HBA1.out.trans (hb24.mono HBA1.out.size))
    have H4 : Hid (∀ W, Below w4.heap.size w4 W → W.cell? ⟨B, 0, none⟩ = some (.int .i64 s1) ∧ W.cell? ⟨B, 1, none⟩ = some (.int .i64 s2) ∧ W.cell? ⟨B, 2, none⟩ = some (.int .i64 s3) ∧ W.cell? ⟨B, 3, none⟩ = some (.int .i64 s4) ∧ W.cell? ⟨B, 4, none⟩ = some (.int .i64 s5) ∧ W.cell? ⟨B, 5, none⟩ = some (.int .i64 s6)) := Lib.hid fun W hb => by
      have h := (hb.block B (Array.getElem?_eq_some_iff.1 h4).1).trans h4
      exact ⟨by rw [cell_of_row W B _ _ _ (0, 0) h]; rfl, by rw [cell_of_row W B _ _ _ (0, 0) h]; rfl, by rw [cell_of_row W B _ _ _ (0, 0) h]; rfl, by rw [cell_of_row W B _ _ _ (0, 0) h]; rfl, by rw [cell_of_row W B _ _ _ (0, 0) h]; rfl, by rw [cell_of_row W B _ _ _ (0, 0) h]; rfl⟩
    rw [hz]
    unfold stV
    simp only
    obtain ⟨vm, vc, rfl, _⟩ := id hv
    obtain ⟨R, hR⟩ : ∃ R, ms.length = R := ⟨_, rfl⟩
    have HR := Lib.hid hR
    rw [hR]
    clear cN hv hb3 h1 h2 hz h4 hb34 hb24 b0 b1 b2 hR
    by_cases h0 : z = 0
    · subst h0
      obtain ⟨hWT, hBS⟩ := H12.out.2 rfl
      have HWT := Lib.hid hWT
      rw [HR.out] at hBS
      have hRl : R ≤ 300 := by have := hBS.le; have := HFEW.out.2; omega
      have HDB := Lib.hid (err_none HZ.out).2
      have hRb : ¬ b < (R : Int) := by have h3 := hWT.len; rw [HR.out] at h3; have := HDB.out.1; omega
      obtain ⟨N, hNN⟩ : ∃ n, bytesOf L = n := ⟨_, rfl⟩
      have HNN := Lib.hid hNN
      rw [hNN] at hBS
      have hNl : N ≤ 300 := by have := HFEW.out.2; omega
      have cP := refPositions_any x L w4 (HX.out.below HB4.out (Nat.le_refl _)) HLL.out (by have := HFEW.out.2; omega)
      rw [hNN] at cP
      have HBS := Lib.hid hBS
      clear hWT hBS hNN
      go_wp2_with fail
      refine cP.mono ?_
      rintro e w5 ⟨rfl, rfl⟩
      have cW := HNW.out x L b d lim w5 (HX.out.below HB4.out (Nat.le_refl _)) HFEW.out.1 HF.out HFEW.out.2 HFB.out.1 HFB.out.2.1 HFB.out.2.2
      obtain ⟨q0, q1, q2⟩ := HCB.out w5 HBA4.out
      clear cP hw4 hB
      go_wp2_with fail
      refine cW.mono ?_
      rintro e w6 ⟨hb6, hnw⟩
      rw [HZ.out] at hnw
      rcases hnw with ⟨h0, _⟩ | ⟨_, K, S, rfl, hOk, hO, hlo⟩
      · exact absurd rfl h0
      have HOK := Lib.hid hOk
      have HSB : Hid (SbS (O L b d) w K ms 0 w6) := Lib.hid ⟨⟨S, by rw [List.take_zero]; exact hO, fun k hk => Nat.le_trans HB4.out.size (hlo k hk)⟩, HB4.out.trans (hb6.mono HB4.out.size)⟩
      obtain ⟨c0, c1, c2, c3', c4, c5⟩ := H4.out w6 hb6
      have cB := bounded_true ⟨s1, s2, s3, s4, s5, s6⟩ N R w6 HBS.out (by omega)
      have HBA6 := Lib.hid (HBA4.out.trans (hb6.mono HBA4.out.size))
      unfold stV at cB
      simp only at cB
      clear cW hOk hO hlo hb6 q0 q1 q2
      go_wp2_with fail
      refine cB.mono ?_
      rintro e w7 ⟨rfl, hb7⟩
      have HSB7 := Lib.hid (HSB.out.below HOK.out hb7)
      obtain ⟨q0, q1, q2⟩ := HCB.out w7 (HBA6.out.trans (hb7.mono HBA6.out.size))
      have HST : Hid (SbRel (O L b d) L w K R ms (.int .i64 (N : Int)) (.int .i64 ((0 : Nat) : Int)) w7) := Lib.hid ⟨0, rfl, Nat.zero_le _, by
        rw [List.take_zero]
        show _ = Value.int .i64 ((allT (startW L) : Nat) : Int)
        rw [start_all, HNN.out], HSB7.out⟩
      clear cB hb7 c0 c1 c2 c3' c4 c5
      go_wp2
      clear q0 q1 q2
      go_loopw [11, 12] (fun y x wr => SbRel (O L b d) L w K R ms y x wr) (fun _ x _ => R - (intOf x).toNat)
      case atStart => exact HST.out
      case round =>
        clear HST
        obtain ⟨i, rfl, hi, rfl, hsp⟩ := hrel
        have HS := Lib.hid hsp
        clear hsp
        by_cases hgo : i < R
        · have hgoI : (i : Int) < (R : Int) := by omega
          have hiM : i < ms.length := by rw [HR.out]; exact hgo
          have cS := HS.out.next HOK.out HWT.out (by omega)
          have hwi : IntKind.i64.wrap ((i : Int) + 1) = (i : Int) + 1 := IntWalk.i64_in _ (by omega)
          have hless := round_less HWT.out HDB.out.2 hiM
          have hall : allT (runT (startW L) (ms.take i)) ≤ 300 := by
            have h3 := all_run (ms.take i) (startW L)
            rw [start_all] at h3
            have := HFEW.out.2
            omega
          obtain ⟨la, hla⟩ : ∃ n, allT (runT (startW L) (ms.take i)) = n := ⟨_, rfl⟩
          rw [hla] at hless hall ⊢
          have HLE := Lib.hid hless
          clear hless hla
          go_wp2_with fail
          refine cS.mono ?_
          rintro e w8 ⟨hn, hcase⟩
          have HN8 := Lib.hid hn
          have cW := HN8.out.words HOK.out
          obtain ⟨hlt8, rfl⟩ := hcase.resolve_right (fun h => h.1 hiM)
          clear cS hn
          go_wp2_with fail
          refine cW.mono ?_
          rintro e w9 ⟨vg, rfl, hrg, hb9⟩
          obtain ⟨RR, hRR⟩ : ∃ W, runT (startW L) (ms.take (i + 1)) = W := ⟨_, rfl⟩
          have HLR : Hid (RR.length ≤ 60) := Lib.hid (by rw [← hRR, runT_len, startW_len]; exact HFEW.out.1)
          rw [hRR] at hrg HLE
          have HRR := Lib.hid hRR
          have HN9 := Lib.hid (HN8.out.below HOK.out hb9)
          obtain ⟨ag, cg, rfl⟩ := hrg.form
          obtain ⟨nL, hnL⟩ : ∃ n, RR.length = n := ⟨_, rfl⟩
          have HNL := Lib.hid hnL
          have hnl : nL ≤ 60 := by rw [← hnL]; exact HLR.out
          have hnl2 : ¬ (100 : Int) < (nL : Int) := by omega
          have HRG := Lib.hid hrg
          rw [hnL]
          have HST2 : Hid (SuRel RR w w9 (.int .i64 ((0 : Nat) : Int)) (.int .i64 ((0 : Nat) : Int)) w9) := Lib.hid ⟨0, rfl, Nat.zero_le _, rfl, rfl, HN9.out.bel⟩
          clear cW hrg hb9 hRR hnL
          go_wp2
          go_loopw [13, 15] (fun y x wr => SuRel RR w w9 y x wr) (fun _ x _ => nL - (intOf x).toNat)
          case atStart => exact HST2.out
          case round =>
            clear HST2
            obtain ⟨k, rfl, hk, rfl, hw, hbw⟩ := hrel
            obtain rfl := hw.symm
            rw [HNL.out] at hk
            have HBW := Lib.hid hbw
            clear hbw hw
            by_cases hko : k < nL
            · have hkoI : (k : Int) < (nL : Int) := by omega
              have hkR : k < RR.length := by rw [HNL.out]; exact hko
              have hwk : IntKind.i64.wrap ((k : Int) + 1) = (k : Int) + 1 := IntWalk.i64_in _ (by omega)
              have h1 := HRG.out
              obtain ⟨ad, ai, ci, rfl, g1⟩ := h1.row hkR
              obtain ⟨r0, _⟩ := g1 _ (Below.refl _ _)
              have hat := all_take hkR
              have hal := all_take_le RR (k + 1)
              obtain ⟨nk, hnk⟩ : ∃ n, RR[k].length = n := ⟨_, rfl⟩
              rw [hnk] at r0 hat
              obtain ⟨t1, ht1⟩ : ∃ n, allT (RR.take k) = n := ⟨_, rfl⟩
              have hsum : IntKind.i64.wrap ((t1 : Int) + (nk : Int)) = (t1 : Int) + (nk : Int) := IntWalk.i64_in _ (by have := HLE.out; omega)
              have HAT : Hid (((allT (RR.take (k + 1)) : Nat) : Int) = (t1 : Int) + (nk : Int)) := Lib.hid (by rw [hat, ht1]; simp)
              rw [ht1]
              clear h1 g1 hat hal hnk ht1
              go_wp2
              go_roundw
              case rel => exact ⟨k + 1, by simp, by rw [HNL.out]; omega, by rw [HAT.out], rfl, HBW.out⟩
              case measure => simp [intOf]; omega
            · have hkoI : ¬ (k : Int) < (nL : Int) := by omega
              have hta : RR.take k = RR := List.take_of_length_le (by rw [HNL.out]; omega)
              rw [hta]
              obtain ⟨nw, hnw⟩ : ∃ n, allT RR = n := ⟨_, rfl⟩
              have hlt1 : ¬ (la : Int) ≤ (nw : Int) := by have := HLE.out; omega
              have HNW2 := Lib.hid hnw
              rw [hnw]
              clear hta hnw
              go_wp2
              go_roundw
              case rel => exact ⟨i + 1, by simp, by omega, by rw [HRR.out, HNW2.out], HN9.out⟩
              case measure => simp [intOf]; omega
        · have hgoI : ¬ (i : Int) < (R : Int) := by omega
          obtain rfl : i = R := by omega
          have cS := HS.out.next HOK.out HWT.out (by rw [HR.out]; exact Nat.le_refl _)
          go_wp2_with fail
          refine cS.mono ?_
          rintro e w8 ⟨hn, hcase⟩
          have HN8 := Lib.hid hn
          obtain ⟨hlt8, _⟩ | ⟨hge, rfl⟩ := hcase
          · exact absurd hlt8 (by rw [HR.out]; omega)
          obtain ⟨Nb, hNb⟩ : ∃ n, w8.heap.size = n := ⟨_, rfl⟩
          have hq := two_cells (heap_alloc_new w8 (.cells #[.string ⟨#[]⟩, .string ⟨#[]⟩] 42))
          rw [hNb] at hq
          obtain ⟨q0, q1⟩ := hq
          have HB9 : Hid (Below w.heap.size w (w8.alloc (.cells #[.string ⟨#[]⟩, .string ⟨#[]⟩] 42))) := Lib.hid (HN8.out.bel.trans (((Below.refl _ w8).alloc (Nat.le_refl _) _).mono HN8.out.bel.size))
          have cN := HZN.out.step (w8.alloc (.cells #[.string ⟨#[]⟩, .string ⟨#[]⟩] 42))
          clear cS hn hge
          go_wp2_with fail
          refine cN.mono ?_
          rintro e w10 ⟨rfl, hb10⟩
          obtain ⟨Nc, hNc⟩ : ∃ n, w10.heap.size = n := ⟨_, rfl⟩
          have hr := two_cells (heap_alloc_new w10 (.cells #[.string ⟨#[]⟩, .string ⟨#[]⟩] 42))
          rw [hNc] at hr
          obtain ⟨r0, r1⟩ := hr
          have HB10 : Hid (Below w.heap.size w w10) := Lib.hid (HB9.out.trans (hb10.mono HB9.out.size))
          have HB11 : Hid (Below w.heap.size w (w10.alloc (.cells #[.string ⟨#[]⟩, .string ⟨#[]⟩] 42))) := Lib.hid (HB10.out.trans (((Below.refl _ w10).alloc (Nat.le_refl _) _).mono HB10.out.size))
          have cM := HZN.out.merges (w10.alloc (.cells #[.string ⟨#[]⟩, .string ⟨#[]⟩] 42))
          clear cN hb10 q0 q1 hNb
          go_wp2_with fail
          refine cM.mono ?_
          rintro e w12 ⟨⟨a1, k1, rfl⟩, hb12⟩
          have HB12 : Hid (Below w.heap.size w w12) := Lib.hid (HB11.out.trans (hb12.mono HB11.out.size))
          have cT := HZN.out.stats w12
          clear cM hb12 r0 r1 hNc
          go_wp2_with fail
          refine cT.mono ?_
          rintro e w13 ⟨rfl, hb13⟩
          have HB13 : Hid (Below w.heap.size w w13) := Lib.hid (HB12.out.trans (hb13.mono HB12.out.size))
          have cV := HZN.out.words w13
          have hq := stats_eql w13
          unfold stV noS
          unfold stV noS at hq
          simp only at hq ⊢
          clear cT hb13
          go_wp2_with fail
          refine cV.mono ?_
          rintro e w14 ⟨⟨a2, k2, rfl⟩, hb14⟩
          have HB14 : Hid (Below w.heap.size w w14) := Lib.hid (HB13.out.trans (hb14.mono HB13.out.size))
          clear cV hb14 hq
          go_wp2
          go_ret
          exact ⟨rfl, HB14.out⟩
    · have hz1 : (z == 0) = false := by simpa using h0
      have hz2 : (z != 0) = true := by simpa using h0
      obtain ⟨hms, hs⟩ := H12.out.1 h0
      obtain rfl : R = 0 := by rw [← HR.out, hms]; rfl
      obtain ⟨c0, c1, c2, c3, c4, c5⟩ := H4.out w4 (Below.refl _ _)
      have hq : (binOp .eql 29 (.agg #[.int .i64 s1, .int .i64 s2, .int .i64 s3, .int .i64 s4, .int .i64 s5, .int .i64 s6]) (.agg #[.int .i64 0, .int .i64 0, .int .i64 0, .int .i64 0, .int .i64 0, .int .i64 0])).run Tryz.prog w4 = .ok (.bool true) w4 := by
        unfold noS at hs
        simp only [StN.mk.injEq] at hs
        obtain ⟨rfl, rfl, rfl, rfl, rfl, rfl⟩ := hs
        exact stats_eql w4
      have hz6 : s1 = 0 ∧ s2 = 0 ∧ s3 = 0 ∧ s4 = 0 ∧ s5 = 0 ∧ s6 = 0 := by
        unfold noS at hs
        simpa only [StN.mk.injEq] using hs
      obtain ⟨z1, z2, z3, z4, z5, z6⟩ := hz6
      clear H12 hms hs
      go_wp2
      go_ret
      exact ⟨rfl, by have h := HB4.out; rw [← hw4, z1, z2, z3, z4, z5, z6] at h; exact h⟩
end Go.Proofs.YtnmacalbbmeedaaGreat
/- Params by value as an argument, with the numbers' bounds; the four laws, as shell.py's closing texts call them, over what is asked of the program. -/
namespace Go.Proofs.YtnmacalbbmeedaaGreat
open Go.ChangeShapes Go.WideShapes Go.RowKit

set_option maxRecDepth 100000 in
theorem open_paramsB {H : Type} {enc : TypeId × Value → H} {W : World} {base : Nat} {v : Value} {d : DataW H} {p : List MemPlace} (ov : Value.okWide Tryz.prog W .any base 24 v)
    (h : DataW.Trod enc Tryz.prog W 0 (fun _ => true) true 24 v d p) : ∃ b m l : Int, v = .agg #[.int .i64 b, .int .i64 m, .int .i64 l] ∧ FitsB b ∧ FitsB m ∧ FitsB l := by
  obtain ⟨v0, v1, v2, y0, y1, y2, n, rfl, _, _, t0, t1, t2⟩ := Joins.open_agg3 Tryz.underlying24 (by kernel_rfl) Tryz.cells24 ov h
  obtain ⟨b, e0, _, h0⟩ := DataW.trod_int Tryz.underlying3 t0
  obtain ⟨m, e1, _, h1⟩ := DataW.trod_int Tryz.underlying3 t1
  obtain ⟨l, e2, _, h2⟩ := DataW.trod_int Tryz.underlying3 t2
  simp only [List.cons.injEq, and_true] at e0 e1 e2
  exact ⟨b, m, l, by rw [e0, e1, e2], bounds_i64 h0, bounds_i64 h1, bounds_i64 h2⟩
set_option maxRecDepth 100000 in
theorem trainLearns_shell (hT : TLearns) (v : Value) (b d l : Int) (W : World) (L : Bag) (hw : wordsAt W v L) (hl : L.length ≤ maxLen) (hf : Fits L) (_ : nilNone v) (_ : ∀ a n c, v = .slice a n c → n ≤ c) (wb : FitsB b) (wd : FitsB d) (wl : FitsB l) :
    Calls Tryz.prog 3 #[v, .agg #[.int .i64 b, .int .i64 d, .int .i64 l]] W fun e w' => e = .returned (.bool true) ∧ Below W.heap.size W w' :=
  trainLearns_over hT v b d l W L hw (by unfold maxLen at hl; omega) hf wb wd wl
set_option maxRecDepth 100000 in
theorem trainSteps_shell {O : Bag → Int → Int → LObj} (hT : TLearns) (hN : TNews O) (v : Value) (b d l s : Int) (W : World) (L : Bag) (hw : wordsAt W v L) (hl : L.length ≤ maxLen) (hf : Fits L) (_ : nilNone v) (_ : ∀ a n c, v = .slice a n c → n ≤ c) (wb : FitsB b) (wd : FitsB d) (wl : FitsB l) (ws : (Lit.int .u8 s).wf = true) :
    Calls Tryz.prog 4 #[v, .agg #[.int .i64 b, .int .i64 d, .int .i64 l], .int .u8 s] W fun e w' => e = .returned (.bool true) ∧ Below W.heap.size W w' :=
  trainSteps_over hT hN v b d l s W L hw (by unfold maxLen at hl; omega) hf wb wd wl (bounds_u8 ws).1 (bounds_u8 ws).2
set_option maxRecDepth 100000 in
theorem trainBounds_shell {O : Bag → Int → Int → LObj} (hT : TLearns) (hN : TNews O) (hZ : TNils) (v : Value) (b d l : Int) (W : World) (L : Bag) (hw : wordsAt W v L) (hl : L.length ≤ maxLen) (hf : Fits L) (_ : nilNone v) (_ : ∀ a n c, v = .slice a n c → n ≤ c) (wb : FitsB b) (wd : FitsB d) (wl : FitsB l) :
    Calls Tryz.prog 5 #[v, .agg #[.int .i64 b, .int .i64 d, .int .i64 l]] W fun e w' => e = .returned (.bool true) ∧ Below W.heap.size W w' :=
  trainBounds_over hT hN hZ v b d l W L hw (by unfold maxLen at hl; omega) hf wb wd wl
set_option maxRecDepth 100000 in
theorem trainBudget_shell (hT : TLearns) (v : Value) (b d m : Int) (W : World) (L : Bag) (hw : wordsAt W v L) (hl : L.length ≤ maxLen) (hf : Fits L) (_ : nilNone v) (_ : ∀ a n c, v = .slice a n c → n ≤ c) (wb : (Lit.int .u8 b).wf = true) (wd : (Lit.int .u8 d).wf = true) (wm : (Lit.int .u8 m).wf = true) :
    Calls Tryz.prog 6 #[v, .int .u8 b, .int .u8 d, .int .u8 m] W fun e w' => e = .returned (.bool true) ∧ Below W.heap.size W w' :=
  trainBudget_over hT v b d m W L hw (by unfold maxLen at hl; omega) hf (bounds_u8 wb).1 (bounds_u8 wb).2 (bounds_u8 wd).1 (bounds_u8 wd).2 (bounds_u8 wm).1 (bounds_u8 wm).2
end Go.Proofs.YtnmacalbbmeedaaGreat
