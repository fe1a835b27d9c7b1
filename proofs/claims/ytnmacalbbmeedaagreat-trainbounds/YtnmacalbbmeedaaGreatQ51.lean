/- Texts in one: TrT, TrX. -/
import Derived.Test.YtnmacalbbmeedaaGreatQ44
/- TrainSteps over what is asked of a learner. -/
namespace Go.Proofs.YtnmacalbbmeedaaGreat
open Go.RowKit

/-- What stands while a learner is stepped: what the whole learns lies in vW. -/
structure SpS (O : LObj) (w : World) (K : Nat) (vW : Value) (want : List Mg) (i : Nat) (wr : World) : Prop where
  obj : ∃ S, O wr S K (want.take i) ∧ (∀ k, S k → w.heap.size ≤ k) ∧ ∀ g, vW.ownBlock = some g → ¬ S g
  row : ownE mergeE wr w.heap.size vW want
  bel : Below w.heap.size w wr
def SpRel (O : LObj) (w : World) (K st : Nat) (vW : Value) (want : List Mg) (x : Value) (wr : World) : Prop := ∃ i : Nat, x = .int .i64 (i : Int) ∧ i ≤ st ∧ SpS O w K vW want i wr
variable {O : LObj} {w wr w' : World} {K : Nat} {vW : Value} {want : List Mg} {i : Nat} {L : Bag} {b d : Int}
set_option maxRecDepth 100000 in
theorem SpS.below (hO : LrnOk O L b d) (h : SpS O w K vW want i wr) (hb : Below wr.heap.size wr w') : SpS O w K vW want i w' := by
  obtain ⟨S, h1, h2, h3⟩ := h.obj
  exact ⟨⟨S, hO.kept h1 (fun k a _ => hb.block k a) hb.size, h2, h3⟩, h.row.below hb, h.bel.trans (hb.mono h.bel.size)⟩
/-- Behind a step. -/
def SpNext (O : LObj) (w : World) (K : Nat) (vW : Value) (want : List Mg) (i : Nat) (e : Ending) (w' : World) : Prop :=
  SpS O w K vW want (i + 1) w' ∧ ((∃ h : i < want.length, e = .returned (.tuple #[.agg #[.string (want[i]).1, .string (want[i]).2], .bool true])) ∨ (¬ i < want.length ∧ e = .returned (.tuple #[.agg #[.string ⟨#[]⟩, .string ⟨#[]⟩], .bool false])))
set_option maxRecDepth 100000 in
theorem SpS.next (hO : LrnOk O L b d) (hW : Learned (startW L) (countsOf L) b d want) (h : SpS O w K vW want i wr) : Calls Tryz.prog 14 #[.pointer (some ⟨K, 0, none⟩)] wr (SpNext O w K vW want i) := by
  obtain ⟨S, h1, h2, h3⟩ := h.obj
  refine (hO.step h1).mono ?_
  rintro e w' ⟨S', hst, hr⟩
  have hs := h.bel.size
  have hrow : ownE mergeE w' w.heap.size vW want := h.row.kept fun g hg => hst.kept.block g (h.row.lt g hg).2 (h3 g hg)
  have hbel : Below w.heap.size w w' := Below.kept h.bel hst.kept h2 hs
  have hlo : ∀ k, S' k → w.heap.size ≤ k := fun k hk => by
    by_cases e : k < wr.heap.size
    · exact h2 k (hst.out k hk e)
    · omega
  have hg : ∀ g, vW.ownBlock = some g → ¬ S' g := fun g hg hk => h3 g hg (hst.out g hk (h.row.lt g hg).2)
  have hcases : (∃ h : i < want.length, ∃ m n, BestRel (runT (startW L) (want.take i)) (countsOf L) m n ∧ d ≤ n ∧ want[i] = m ∧ e = .returned (.tuple #[.agg #[.string m.1, .string m.2], .bool true]) ∧ O w' S' K (want.take i ++ [m])) ∨ (¬ i < want.length ∧ e = .returned (.tuple #[.agg #[.string ⟨#[]⟩, .string ⟨#[]⟩], .bool false]) ∧ O w' S' K (want.take i)) := by
    by_cases hi : i ≤ want.length
    · have hl : (want.take i).length = i := by rw [List.length_take]; omega
      rcases hr with ⟨m, n, a1, a2, a3, a4, a5⟩ | ⟨a1, a2, a3⟩
      · rw [hl] at a3
        obtain ⟨hlt, e1⟩ := step_next hW a1 a2 a3
        exact .inl ⟨hlt, m, n, a1, a2, e1, a4, a5⟩
      · rw [hl] at a1
        exact .inr ⟨step_end hW a1, a2, a3⟩
    · have e1 : want.take i = want := List.take_of_length_le (by omega)
      rw [e1] at hr ⊢
      have e2 : want.take want.length = want := List.take_length
      rcases hr with ⟨m, n, a1, a2, a3, a4, a5⟩ | ⟨a1, a2, a3⟩
      · obtain ⟨hlt, _⟩ := step_next (i := want.length) hW (by rw [e2]; exact a1) a2 a3
        exact absurd hlt (Nat.lt_irrefl _)
      · exact .inr ⟨by omega, a2, a3⟩
  rcases hcases with ⟨hlt, m, n, a1, a2, a3, a4, a5⟩ | ⟨hge, a2, a3⟩
  · subst a3
    refine ⟨⟨⟨S', ?_, hlo, hg⟩, hrow, hbel⟩, .inl ⟨hlt, a4⟩⟩
    rw [List.take_succ_eq_append_getElem hlt]
    exact a5
  · refine ⟨⟨⟨S', ?_, hlo, hg⟩, hrow, hbel⟩, .inr ⟨hge, a2⟩⟩
    rw [List.take_of_length_le (by omega : want.length ≤ i + 1)]
    rw [List.take_of_length_le (by omega : want.length ≤ i)] at a3
    exact a3
set_option maxRecDepth 100000 in
theorem SpS.stats (hO : LrnOk O L b d) (h : SpS O w K vW want i wr) : Calls Tryz.prog 16 #[.pointer (some ⟨K, 0, none⟩)] wr fun e w' => ∃ s, e = .returned (stV s) ∧ BoundS s (bytesOf L) (min i want.length) ∧ Below wr.heap.size wr w' := by
  obtain ⟨S, h1, _, _⟩ := h.obj
  have := hO.stats h1
  rw [List.length_take] at this
  exact this
set_option maxRecDepth 100000 in
theorem SpS.words (hO : LrnOk O L b d) (h : SpS O w K vW want i wr) : Calls Tryz.prog 18 #[.pointer (some ⟨K, 0, none⟩)] wr fun e w' => ∃ v, e = .returned v ∧ rowsT w' v (runT (startW L) (want.take i)) ∧ Below wr.heap.size wr w' := by
  obtain ⟨S, h1, _, _⟩ := h.obj
  exact hO.words h1
set_option maxRecDepth 100000 in
theorem SpS.merges (hO : LrnOk O L b d) (h : SpS O w K vW want i wr) : Calls Tryz.prog 19 #[.pointer (some ⟨K, 0, none⟩)] wr fun e w' => ∃ v, e = .returned v ∧ eltsAt mergeE w' v (want.take i) ∧ Below wr.heap.size wr w' := by
  obtain ⟨S, h1, _, _⟩ := h.obj
  exact hO.merges h1
def SqRel (w : World) (n : Nat) (x : Value) (wr : World) : Prop := ∃ k : Nat, x = .int .i64 (k : Int) ∧ k ≤ n ∧ Below w.heap.size w wr
end Go.Proofs.YtnmacalbbmeedaaGreat
/- TrainSteps over what is asked of a learner. -/
namespace Go.Proofs.YtnmacalbbmeedaaGreat
open Go.RowKit

set_option maxRecDepth 100000 in
set_option maxHeartbeats 16000000 in
theorem trainSteps_over {O : Bag → Int → Int → LObj} (hT : TLearns) (hN : TNews O) (x : Value) (b d lim st : Int) (w : World) (L : Bag) (hx : wordsAt w x L) (hL : L.length ≤ 9223372036854775807) (hf : Fits L) (hb : FitsB b) (hd : FitsB d) (hlim : FitsB lim) (st0 : 0 ≤ st) (st1 : st ≤ 255) :
    Calls Tryz.prog 4 #[x, .agg #[.int .i64 b, .int .i64 d, .int .i64 lim], .int .u8 st] w fun e w' => e = .returned (.bool true) ∧ Below w.heap.size w w' := by
  obtain ⟨M, hM⟩ : ∃ M, w.heap.size = M := ⟨_, rfl⟩
  obtain ⟨wa, hwa⟩ : ∃ wa, w.alloc (.cells #[.int .i64 b, .int .i64 d, .int .i64 lim] 24) = wa := ⟨_, rfl⟩
  have hba : wa.heap[M]? = some (.cells #[.int .i64 b, .int .i64 d, .int .i64 lim] 24 (0, 0)) := by rw [← hwa, ← hM]; exact heap_alloc_new w _
  have hbe : Below w.heap.size w wa := by rw [← hwa]; exact (Below.refl _ w).alloc (Nat.le_refl _) _
  have hlt : M < wa.heap.size := (Array.getElem?_eq_some_iff.1 hba).1
  have HCB : Hid (∀ W, Below wa.heap.size wa W → W.cell? ⟨M, 0, none⟩ = some (.int .i64 b) ∧ W.cell? ⟨M, 1, none⟩ = some (.int .i64 d) ∧ W.cell? ⟨M, 2, none⟩ = some (.int .i64 lim)) := Lib.hid fun W hb => by
    have h := (hb.block M hlt).trans hba
    exact ⟨by rw [cell_of_row W M _ _ _ (0, 0) h]; rfl, by rw [cell_of_row W M _ _ _ (0, 0) h]; rfl, by rw [cell_of_row W M _ _ _ (0, 0) h]; rfl⟩
  obtain ⟨sn, rfl⟩ : ∃ n : Nat, st = (n : Int) := ⟨st.toNat, by omega⟩
  have hws : IntKind.i64.wrap (sn : Int) = (sn : Int) := IntWalk.i64_in _ (by omega)
  have hsn : sn ≤ 255 := by omega
  have cA := tawake_any hT wa
  have HX := Lib.hid hx
  have HF := Lib.hid hf
  have HNW := Lib.hid hN
  have HBE := Lib.hid hbe
  have HFB := Lib.hid (And.intro hb (And.intro hd hlim))
  have HLL := Lib.hid hL
  clear hx hf hT hN hba hbe hlt hb hd hlim hL st0 st1
  go_enter Tryz.func4, Tryz.ntmps4
  go_wp2_with fail
  refine cA.mono ?_
  rintro e w1 ⟨rfl, hb1⟩
  have HBA1 := Lib.hid hb1
  have HB1 := Lib.hid (HBE.out.trans (hb1.mono HBE.out.size))
  have cG := tgreat_any x L w1 (HX.out.below HB1.out (Nat.le_refl _)) HLL.out
  obtain ⟨b0, b1, b2⟩ := HCB.out w1 hb1
  clear cA hb1 hwa hM
  go_wp2_with fail
  refine cG.mono ?_
  rintro e w2 ⟨g, rfl, rfl, hg⟩
  clear cG
  cases g with
  | true =>
    go_wp2
    go_ret
    exact ⟨rfl, HB1.out⟩
  | false =>
    obtain ⟨⟨h60, h300⟩, _⟩ := hg rfl
    have cN := HNW.out x L b d lim w2 (HX.out.below HB1.out (Nat.le_refl _)) h60 HF.out h300 HFB.out.1 HFB.out.2.1 HFB.out.2.2
    have HFEW := Lib.hid (And.intro h60 h300)
    clear hg h60 h300
    go_wp2_with fail
    refine cN.mono ?_
    rintro e w3 ⟨hb3, hnw⟩
    have hba3 := HBA1.out.trans (hb3.mono HBA1.out.size)
    obtain ⟨q0, q1, q2⟩ := HCB.out w3 hba3
    have HB3 := Lib.hid (HB1.out.trans (hb3.mono HB1.out.size))
    have cR := rtrain_any x L b d lim w3 (HX.out.below HB3.out (Nat.le_refl _)) (by have := HFEW.out.1; omega) HF.out (by have := HFEW.out.2; omega)
    obtain ⟨z, hz⟩ : ∃ z, errT L b d lim = z := ⟨_, rfl⟩
    rw [hz] at hnw
    have HZ := Lib.hid hz
    have HS23 := Lib.hid hb3.size
    clear cN hb3 hba3 b0 b1 b2 hz
    rcases hnw with ⟨h0, rfl⟩ | ⟨rfl, K, S, rfl, hOk, hO, hlo⟩
    · have hz1 : (z == 0) = false := by simpa using h0
      have hz2 : (z != 0) = true := by simpa using h0
      go_wp2_with fail
      refine cR.mono ?_
      rintro e w4 ⟨v4, ks, rfl, ho, hb4, _, _⟩
      rw [HZ.out]
      have HB4 := Lib.hid (HB3.out.trans (hb4.mono HB3.out.size))
      clear cR ho hb4 q0 q1 q2
      go_wp2
      go_ret
      exact ⟨rfl, HB4.out⟩
    · have HOK := Lib.hid hOk
      have HO := Lib.hid hO
      have HLO := Lib.hid hlo
      clear hOk hO hlo
      go_wp2_with fail
      refine cR.mono ?_
      rintro e w4 ⟨vW, want, rfl, ho, hb4, _, hwt⟩
      rw [HZ.out]
      have HWT := Lib.hid (hwt HZ.out)
      obtain ⟨wW, cW, eW, hcap⟩ := ho.form
      subst eW
      have hlen : want.length ≤ 300 := by
        have h1 := (HWT.out).each
        have h2 := learned_short (C := countsOf L) (err_none HZ.out).2.2 h1 want.length (Nat.le_refl _)
        rw [start_all] at h2
        have := HFEW.out.2
        omega
      have HSP : Hid (SpS (O L b d) w K (.slice wW want.length cW) want 0 w4) := Lib.hid (by
        refine ⟨⟨S, ?_, fun k hk => Nat.le_trans HB1.out.size (HLO.out k hk), fun g hg hS => ?_⟩, ho.mono HB3.out.size, HB3.out.trans (hb4.mono HB3.out.size)⟩
        · rw [List.take_zero]
          exact HOK.out.kept HO.out (fun k a _ => hb4.block k a) hb4.size
        · have h1 := HOK.out.lt HO.out g hS
          have h2 := (ho.lt g hg).1
          omega)
      obtain ⟨wn, hwn⟩ : ∃ n, want.length = n := ⟨_, rfl⟩
      have HWN := Lib.hid hwn
      have HCAP := Lib.hid hcap
      have HMS : Hid (∀ m ∈ want, m.1.size + m.2.size ≤ 1000000) := Lib.hid fun m hm => by
        have h3 := (nv_small (L := L) (n := 300) HFEW.out.2 (budget := b) (least := d) (ms := want) (fun h => absurd h (by have := err_none HZ.out; omega)) (fun _ _ => HWT.out)).2 m hm
        omega
      rw [hwn] at HSP hlen ⊢
      have cP := refPositions_any x L w4 (HX.out.below HSP.out.bel (Nat.le_refl _)) HLL.out (by have := HFEW.out.2; omega)
      obtain ⟨N, hNN⟩ : ∃ n, bytesOf L = n := ⟨_, rfl⟩
      have HNN := Lib.hid hNN
      have hNl : N ≤ 300 := by have := HFEW.out.2; omega
      rw [hNN] at cP
      clear cR ho hb4 hwt q0 q1 q2 hcap hNN HO HLO
      go_wp2_with fail
      refine cP.mono ?_
      rintro e w5 ⟨rfl, rfl⟩
      have HST : Hid (SpRel (O L b d) w K sn (.slice wW wn cW) want (.int .i64 ((0 : Nat) : Int)) w5) := Lib.hid ⟨0, rfl, Nat.zero_le _, HSP.out⟩
      clear cP
      go_wp2
      go_loopw [12] (fun x wr => SpRel (O L b d) w K sn (.slice wW wn cW) want x wr) (fun x _ => sn - (intOf x).toNat)
      case atStart => exact HST.out
      case round =>
        clear HST
        obtain ⟨i, rfl, hi, hsp⟩ := hrel
        have HS := Lib.hid hsp
        clear hsp
        by_cases hgo : i < sn
        · have hgoI : (i : Int) < (sn : Int) := by omega
          have cS := HS.out.next HOK.out HWT.out
          have hwi : IntKind.i64.wrap ((i : Int) + 1) = (i : Int) + 1 := IntWalk.i64_in _ (by omega)
          go_wp2_with fail
          refine cS.mono ?_
          rintro e w6 ⟨hn, hcase⟩
          obtain ⟨Nb, hNb⟩ : ∃ n, w6.heap.size = n := ⟨_, rfl⟩
          clear cS
          rcases hcase with ⟨hlt, rfl⟩ | ⟨hge, rfl⟩
          · obtain ⟨⟨bl, br⟩, hm⟩ : ∃ m, want[i] = m := ⟨_, rfl⟩
            rw [hm]
            simp only
            obtain ⟨W6, hW6⟩ : ∃ W, w6.alloc (.cells #[.string bl, .string br] 42) = W := ⟨_, rfl⟩
            have hbx : W6.heap[Nb]? = some (.cells #[.string bl, .string br] 42 (0, 0)) := by rw [← hW6, ← hNb]; exact heap_alloc_new _ _
            have hsp6 := hn.below HOK.out (show Below w6.heap.size w6 W6 by rw [← hW6]; exact (Below.refl _ _).alloc (Nat.le_refl _) _)
            obtain ⟨wad, rfl⟩ : ∃ ad, wW = some ad := by
              obtain ⟨_, _, e1, hc⟩ := hsp6.row.reads
              obtain ⟨ad, e2, _⟩ := hc i hlt
              exact ⟨ad, (Value.slice.inj e1).1.trans e2⟩
            have hRD := hsp6.row.reads
            rw [← HWN.out] at hRD
            obtain ⟨r0, r1⟩ := merges_at hRD (Below.refl _ _) hlt
            rw [hm] at r0 r1
            simp only at r0 r1
            obtain ⟨q0, q1⟩ := two_cells hbx
            have hiw : i < wn := by rw [← HWN.out]; exact hlt
            have hiwI : (i : Int) < (wn : Int) := by omega
            have hdl : decide ((i : Int) < (wn : Int)) = true := decide_eq_true hiwI
            have hdn : decide (i < wn) = true := decide_eq_true hiw
            have hneq := merge_neq_no bl br
            have HN6 := Lib.hid hsp6
            have cST := fun q => (HN6.out.below HOK.out (show Below W6.heap.size W6 (W6.drewN q) from below_drewN' (Below.refl _ _) q)).stats HOK.out
            have hmin := tr_min (i + 1) wn (i + 1) (by omega)
            have HMI : Hid (min (i + 1) want.length = i + 1) := Lib.hid (by omega)
            rw [show ((i + 1 : Nat) : Int) = (i : Int) + 1 by omega] at hmin
            clear hbx hsp6 hRD hm hn
            go_wp2_with fail
            go_quiet (fail)
            go_wp2_with fail
            refine (cST nq).mono ?_
            rintro e w7 ⟨s, rfl, hs, hb7⟩
            rw [HMI.out, HNN.out] at hs
            have cB := bounded_true s N (i + 1) w7 hs (by omega)
            rw [show ((i + 1 : Nat) : Int) = (i : Int) + 1 by omega] at cB
            have HN7 := Lib.hid ((HN6.out.below HOK.out (show Below W6.heap.size W6 (W6.drewN nq) from below_drewN' (Below.refl _ _) nq)).below HOK.out hb7)
            clear cST hb7 hs
            go_wp2_with fail
            refine cB.mono ?_
            rintro e w8 ⟨rfl, hb8⟩
            have HN8 := Lib.hid (HN7.out.below HOK.out hb8)
            clear cB hb8
            go_wp2
            go_roundw
            case rel => exact ⟨i + 1, by simp, by omega, HN8.out⟩
            case measure => simp [intOf]; omega
          · have hneq := merge_neq_no ⟨#[]⟩ ⟨#[]⟩
            have hiwI : ¬ (i : Int) < (wn : Int) := by rw [HWN.out] at hge; omega
            have hdl : decide ((i : Int) < (wn : Int)) = false := decide_eq_false hiwI
            have hdn : decide (i < wn) = false := decide_eq_false (by omega)
            have HN6 := Lib.hid hn
            have hmin := tr_min (i + 1) wn wn (by omega)
            have HMI : Hid (min (i + 1) want.length = wn) := Lib.hid (by rw [HWN.out]; omega)
            rw [show ((i + 1 : Nat) : Int) = (i : Int) + 1 by omega] at hmin
            have hq := two_cells (heap_alloc_new w6 (.cells #[.string ⟨#[]⟩, .string ⟨#[]⟩] 42))
            rw [hNb] at hq
            obtain ⟨q0, q1⟩ := hq
            clear hn hge
            go_wp2_with fail
            go_quiet (fail)
            obtain ⟨W6, hW6⟩ : ∃ W, (w6.alloc (.cells #[.string ⟨#[]⟩, .string ⟨#[]⟩] 42)).drewN nq = W := ⟨_, rfl⟩
            have hb6 : Below w6.heap.size w6 W6 := by rw [← hW6]; exact below_drewN' ((Below.refl _ _).alloc (Nat.le_refl _) _) _
            have HS6 := Lib.hid (HN6.out.below HOK.out hb6)
            have cST := HS6.out.stats HOK.out
            try rw [hW6]
            clear q0 q1 hb6 hW6
            go_wp2_with fail
            refine cST.mono ?_
            rintro e w7 ⟨s, rfl, hs, hb7⟩
            rw [HMI.out, HNN.out] at hs
            have cB := bounded_true s N wn w7 hs (by omega)
            have HN7 := Lib.hid (HS6.out.below HOK.out hb7)
            clear cST hb7 hs
            go_wp2_with fail
            refine cB.mono ?_
            rintro e w8 ⟨rfl, hb8⟩
            have HN8 := Lib.hid (HN7.out.below HOK.out hb8)
            clear cB hb8
            go_wp2
            go_roundw
            case rel => exact ⟨i + 1, by simp, by omega, HN8.out⟩
            case measure => simp [intOf]; omega
        · have hgoI : ¬ (i : Int) < (sn : Int) := by omega
          obtain rfl : i = sn := by omega
          obtain ⟨k, hk⟩ : ∃ k, k = min i wn := ⟨_, rfl⟩
          have hmin := tr_min i wn k hk
          obtain ⟨vd, hrun, hat⟩ := merges_head wW wn cW k (k : Int) rfl (by have := HCAP.out; omega)
          have HTK : Hid (want.take i = want.take k) := Lib.hid (by
            by_cases e : i ≤ wn
            · rw [show k = i by omega]
            · rw [List.take_of_length_le (by rw [HWN.out]; omega), List.take_of_length_le (by rw [HWN.out]; omega)])
          have HKL : Hid (k ≤ wn) := Lib.hid (by omega)
          have HVD : Hid (∀ W, Below wr.heap.size wr W → eltsAt mergeE W vd (want.take k)) := Lib.hid fun W hb => hat W want (HS.out.below HOK.out hb).row.reads (by rw [HWN.out]; exact HKL.out)
          have cW1 := rwords_any x vd L (want.take k) wr (HX.out.below HS.out.bel (Nat.le_refl _)) (HVD.out wr (Below.refl _ _)) (by have := HFEW.out.1; omega) (by have := HFEW.out.2; omega) (by rw [List.length_take]; omega) (fun m hm => HMS.out m (List.mem_of_mem_take hm))
          clear hat hk
          go_wp2_with fail
          refine cW1.mono ?_
          rintro e w6 ⟨vw, rfl, hro, hb6⟩
          have HS6 := Lib.hid (HS.out.below HOK.out hb6)
          have HB6 := Lib.hid hb6
          have cW2 := HS6.out.words HOK.out
          have hrw := hro.reads
          clear cW1 hro hb6
          go_wp2_with fail
          refine cW2.mono ?_
          rintro e w7 ⟨vg, rfl, hrg, hb7⟩
          rw [HTK.out] at hrg
          obtain ⟨RR, hRR⟩ : ∃ R, runT (startW L) (want.take k) = R := ⟨_, rfl⟩
          rw [hRR] at hrg hrw
          have HS7 := Lib.hid (HS6.out.below HOK.out hb7)
          have HB7 := Lib.hid (HB6.out.trans (hb7.mono HB6.out.size))
          have HRW := Lib.hid (hrw.below hb7)
          have HRG := Lib.hid hrg
          have hLR : RR.length ≤ 60 := by rw [← hRR, runT_len, startW_len]; exact HFEW.out.1
          have HRL : Hid (∀ W ∈ RR, W.length ≤ 1000000) := Lib.hid fun W hW => by
            obtain ⟨j, hj, rfl⟩ := List.mem_iff_getElem.1 hW
            have h1 := all_take hj
            have h2 := all_take_le RR (j + 1)
            have h3 := all_run (want.take k) (startW L)
            rw [start_all, hRR] at h3
            have := HFEW.out.2
            omega
          obtain ⟨ag, cg, rfl⟩ := hrg.form
          obtain ⟨aw, cw, rfl⟩ := hrw.form
          obtain ⟨nL, hnL⟩ : ∃ n, RR.length = n := ⟨_, rfl⟩
          have HNL := Lib.hid hnL
          rw [hnL] at HRW HRG hLR ⊢
          have cM := HS7.out.merges HOK.out
          clear cW2 hrw hrg hb7 hRR hnL
          go_wp2_with fail
          refine cM.mono ?_
          rintro e w8 ⟨vm, rfl, hvm, hb8⟩
          rw [HTK.out] at hvm
          have HB78 := Lib.hid hb8
          have cS := nvsame_true vm vd (want.take k) w8 hvm (HVD.out w8 (HB7.out.trans (hb8.mono HB7.out.size))) (by rw [List.length_take]; omega)
          have HS8 := Lib.hid (HS7.out.below HOK.out hb8)
          clear cM hvm hb8
          go_wp2_with fail
          refine cS.mono ?_
          rintro e w9 ⟨rfl, hb9⟩
          have HB79 : Hid (Below w7.heap.size w7 w9) := Lib.hid (HB78.out.trans (hb9.mono HB78.out.size))
          have HBW9 : Hid (Below w.heap.size w w9) := Lib.hid (HS8.out.bel.trans (hb9.mono HS8.out.bel.size))
          have HST2 : Hid (SqRel w7 nL (.int .i64 ((0 : Nat) : Int)) w9) := Lib.hid ⟨0, rfl, Nat.zero_le _, HB79.out⟩
          clear cS hb9 hmin hrun
          go_wp2
          go_loopw [18] (fun x wr => SqRel w7 nL x wr ∧ Below w.heap.size w wr) (fun x _ => nL - (intOf x).toNat)
          case atStart => exact ⟨HST2.out, HBW9.out⟩
          case round =>
            clear HST2
            obtain ⟨⟨j, rfl, hj, hbj⟩, hbw⟩ := hrel
            have HBJ := Lib.hid hbj
            have HBW := Lib.hid hbw
            clear hbj hbw
            by_cases hjo : j < nL
            · have hjoI : (j : Int) < (nL : Int) := by omega
              have hjR : j < RR.length := by rw [HNL.out]; exact hjo
              have hwj : IntKind.i64.wrap ((j : Int) + 1) = (j : Int) + 1 := IntWalk.i64_in _ (by omega)
              have h1 := HRG.out
              have h2 := HRW.out
              rw [← HNL.out] at h1 h2
              obtain ⟨ad, ai, ci, rfl, g1⟩ := h1.row hjR
              obtain ⟨ae, aj, cj, rfl, g2⟩ := h2.row hjR
              obtain ⟨WJ, hWJ⟩ : ∃ W, RR[j] = W := ⟨_, rfl⟩
              have hwl := HRL.out RR[j] (List.getElem_mem _)
              rw [hWJ] at g1 g2 hwl
              obtain ⟨r0, _⟩ := g1 _ HBJ.out
              obtain ⟨r1, _⟩ := g2 _ HBJ.out
              have cT := fun q => tr_texts (.slice ai WJ.length ci) (.slice aj WJ.length cj) WJ (wr.drewN q) (g1 _ (below_drewN' HBJ.out q)).2 (g2 _ (below_drewN' HBJ.out q)).2 hwl
              clear h1 h2 g1 g2 hWJ hwl
              go_wp2_with fail
              go_quiet ((go_at_call 20; exact Calls.quiet_of (cT _)))
              go_wp2
              go_roundw
              case rel => exact ⟨⟨j + 1, by simp, by omega, below_drewN' HBJ.out _⟩, below_drewN' HBW.out _⟩
              case measure => simp [intOf]; omega
            · have hjoI : ¬ (j : Int) < (nL : Int) := by omega
              go_wp2
              go_ret
              exact ⟨rfl, HBW.out⟩
end Go.Proofs.YtnmacalbbmeedaaGreat
