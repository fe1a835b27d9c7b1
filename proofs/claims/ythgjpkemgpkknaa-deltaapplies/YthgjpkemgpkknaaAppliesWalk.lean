/- DeltaApplies, walked. -/
import Derived.Test.YthgjpkemgpkknaaObjs2
namespace Go.Proofs.Ythgjpkemgpkknaa
open Go.RowKit Go.Maps

abbrev At4 (W : World) (a : Addr) (x0 x1 x2 x3 : Int) : Prop := W.cell? a = some (.int .i64 x0) ∧ W.cell? ⟨a.block, a.off + 1, none⟩ = some (.int .i64 x1) ∧ W.cell? ⟨a.block, a.off + 2, none⟩ = some (.int .i64 x2) ∧ W.cell? ⟨a.block, a.off + 3, none⟩ = some (.int .i64 x3)
abbrev At3 (W : World) (a : Addr) (x0 x1 x2 : Int) : Prop := W.cell? a = some (.int .i64 x0) ∧ W.cell? ⟨a.block, a.off + 1, none⟩ = some (.int .i64 x1) ∧ W.cell? ⟨a.block, a.off + 2, none⟩ = some (.int .i64 x2)
def L1Rel (w2 : World) (K K2 K3 n : Nat) (i : Value) (wr : World) : Prop := ∃ (k : Nat) (M : Cn), i = .int .i64 (k : Int) ∧ k ≤ n ∧ Tri w2 K K2 K3 M M M wr ∧ M.length ≤ k
def L2Rel (w2 : World) (K K2 K3 K4 : Nat) (L1 L0 : Cn) (v : Value) (Y : List (Int × Int)) (t : Int) (X : List Chg) (f i : Value) (wr : World) : Prop :=
  ∃ (k : Nat) (fi : Int) (M : Cn), f = .int .i64 fi ∧ i = .int .i64 (k : Int) ∧ k ≤ X.length ∧ Fin4 w2 K K2 K3 K4 L1 M L0 [] v Y wr ∧ XInv t L0 X k fi M ∧ M.length ≤ L0.length + k
def L3Rel (w2 : World) (K K2 K3 K4 : Nat) (L1 L0 : Cn) (v : Value) (Y : List (Int × Int)) (X : List Chg) (i : Value) (wr : World) : Prop :=
  ∃ (k : Nat) (O : Cn), i = .int .i64 (k : Int) ∧ k ≤ X.length ∧ Fin4 w2 K K2 K3 K4 L1 L1 L0 O v Y wr ∧ OInv L0 L1 X k O
set_option maxRecDepth 100000 in
set_option maxHeartbeats 16000000 in
theorem deltaApplies_walk (v vx : Value) (t : Int) (w : World) (D : List DeedI) (hv : eltsAt deedE w v D) (hfD : ∀ x ∈ D, FitsDd x) (X : List Chg) (hx : eltsAt chgE w vx X) (hfX : ∀ x ∈ X, FitsCh x) (ht : FitsZ t) :
    Calls Try.prog 4 #[v, vx, .int .i64 t] w fun e w' => e = .returned (.bool true) ∧ Below w.heap.size w w' := by
  have HV := Lib.hid hv; have HFD := Lib.hid hfD; have HVX := Lib.hid hx; have HFX := Lib.hid hfX; have HT := Lib.hid ht
  obtain ⟨a, cap, rfl, hc⟩ := hv
  obtain ⟨ax, capx, rfl, hcx⟩ := hx
  have HC := Lib.hid hc; have HCX := Lib.hid hcx
  obtain ⟨N1, hN1⟩ : ∃ N, D.length = N := ⟨_, rfl⟩
  obtain ⟨N2, hN2⟩ : ∃ N, X.length = N := ⟨_, rfl⟩
  have HN1 := Lib.hid hN1; have HN2 := Lib.hid hN2
  rw [hN1] at HV ⊢
  rw [hN2] at HVX ⊢
  clear hc hcx hfD hfX ht hN1 hN2
  by_cases hl1 : 100 < N1
  · have hlI : (100 : Int) < (N1 : Int) := by omega
    go_enter Try.func4, Try.ntmps4
    go_wp2_with fail
    refine (awake_any w).mono ?_
    rintro e w2 ⟨rfl, h2⟩
    have HB2 := Lib.hid h2
    clear h2
    go_wp2
    go_ret
    exact ⟨rfl, HB2.out⟩
  have hlI1 : ¬ (100 : Int) < (N1 : Int) := by omega
  by_cases hl2 : 100 < N2
  · have hlI : (100 : Int) < (N2 : Int) := by omega
    go_enter Try.func4, Try.ntmps4
    go_wp2_with fail
    refine (awake_any w).mono ?_
    rintro e w2 ⟨rfl, h2⟩
    have HB2 := Lib.hid h2
    clear h2
    go_wp2
    go_ret
    exact ⟨rfl, HB2.out⟩
  have hlI2 : ¬ (100 : Int) < (N2 : Int) := by omega
  have hmixed : Try.prog.follows .mixedOrders = true := by kernel_rfl
  go_enter Try.func4, Try.ntmps4
  go_wp2_with fail
  refine (awake_any w).mono ?_
  rintro e w2 ⟨rfl, h2⟩
  have HB2 := Lib.hid h2
  clear h2
  have HXW : Hid (∀ W, Below w2.heap.size w2 W → eltsAt chgE W (.slice ax N2 capx) X) := Lib.hid (fun W hW => HVX.out.below (HB2.out.trans (hW.mono HB2.out.size)) (Nat.le_refl _))
  obtain ⟨K, hK⟩ : ∃ K, w2.heap.size = K := ⟨_, rfl⟩
  obtain ⟨w3, hw3⟩ : ∃ w3, w3 = w2.alloc (.cells #[.map none] 52) := ⟨_, rfl⟩
  obtain ⟨K2, hK2⟩ : ∃ K2, w3.heap.size = K2 := ⟨_, rfl⟩
  obtain ⟨w4, hw4⟩ : ∃ w4, w4 = w3.alloc (.cells #[.slice none 0 0, .slice none 0 0] 32) := ⟨_, rfl⟩
  obtain ⟨K3, hK3⟩ : ∃ K3, w4.heap.size = K3 := ⟨_, rfl⟩
  obtain ⟨w5, hw5⟩ : ∃ w5, w5 = w4.alloc (.cells #[.slice none 0 0, .slice none 0 0] 32) := ⟨_, rfl⟩
  have HT5 : Hid (Tri w2 K K2 K3 [] [] [] w5) := Lib.hid (by
    have h3 : Own1 w2 K [] w3 := by rw [hw3, ← hK]; exact Own1.new (Below.refl _ w2)
    have b4 : Below w3.heap.size w3 w4 := by rw [hw4]; exact (Below.refl _ w3).alloc (Nat.le_refl _) _
    have b5 : Below w4.heap.size w4 w5 := by rw [hw5]; exact (Below.refl _ w4).alloc (Nat.le_refl _) _
    have hs3 := h3.bel.size
    have hs4 : w4.heap.size = w3.heap.size + 1 := by rw [hw4]; simp
    have r4 : RefO w2 K2 [] w4 := by rw [hw4, ← hK2]; exact RefO.new hs3
    have r5 : RefO w2 K3 [] w5 := by rw [hw5, ← hK3]; exact RefO.new (by omega)
    exact ⟨(h3.later b4).later b5, r4.later b5, r5, by omega, GoodC.nil, GoodC.nil⟩)
  have cN := new_any w2
  rw [← hw3, hK] at cN
  have hw4' := hw4.symm; have hw5' := hw5.symm
  clear hw3 hw4 hw5 hK
  go_wp2_with fail
  refine cN.mono ?_
  rintro e w3' ⟨rfl, rfl⟩
  go_wp2_with fail
  clear hw4' hw5' hK2 hK3 cN
  go_loopw [10] (fun i wr => L1Rel w2 K K2 K3 N1 i wr) (fun i _ => N1 + 1 - (intOf i).toNat)
  case atStart => exact ⟨0, [], rfl, Nat.zero_le _, HT5.out, by simp⟩
  case round =>
    obtain ⟨k, M, rfl, hk, hT, hM⟩ := hrel
    have HTr := Lib.hid hT
    have HM := Lib.hid hM
    clear hT hM
    by_cases hgo : k < N1
    · have hkI : (k : Int) < (N1 : Int) := by omega
      have hkL : k < D.length := by rw [HN1.out]; exact hgo
      obtain ⟨ad, rfl, hadr⟩ := HC.out k hkL
      obtain ⟨x0, x1, x2, x3, hz⟩ : ∃ x0 x1 x2 x3, D[k] = (((x0, x1), x2), x3) := ⟨_, _, _, _, rfl⟩
      have HAT : Hid (∀ W, Below w2.heap.size w2 W → At4 W (ad.add (k * 4)) x0 x1 x2 x3) := Lib.hid (fun W hW => by
        have := deeds_at HV.out (HB2.out.trans (hW.mono HB2.out.size)) hkL
        rw [hz] at this
        exact this)
      have hfit : FitsDd (((x0, x1), x2), x3) := by rw [← hz]; exact HFD.out _ (List.getElem_mem hkL)
      obtain ⟨⟨fp, fb⟩, ft⟩ := hfit
      simp only at fp fb ft
      have FP := Lib.hid fp; have FB := Lib.hid fb; have FT := Lib.hid ft
      obtain ⟨M', er, hadd⟩ : ∃ M' er, addC M (x0, x1) x2 x3 = (M', er) := ⟨_, _, rfl⟩
      have HM' : Hid (M'.length ≤ k + 1) := Lib.hid (by
        have := addC_len HTr.out.gM.ris (x0, x1) x2 x3
        rw [hadd] at this
        have := HM.out
        simp only at *
        omega)
      have HADD := Lib.hid hadd
      clear hz hadr hkL fp fb ft hadd
      have HSwr := Lib.hid (HAT.out wr HTr.out.own.bel)
      have HDwr := Lib.hid (HTr.out.later (Below.refl _ wr).drew)
      have HSDwr := Lib.hid (HAT.out wr.drew HDwr.out.own.bel)
      have cwa := HDwr.out.add FP.out FB.out FT.out (by have := HM.out; omega)
      rw [HADD.out] at cwa
      go_wp2_with fail
      go_region_held3 (fun w' => At4 w' (ad.add (k * 4)) x0 x1 x2 x3) (first | with_reducible exact HSwax.out | with_reducible exact HSDwr.out | with_reducible exact HSwr.out | exact HSDwr.out) (first
        | (go_at_call 8
           refine cwa.mono ?_
           rintro e wa ⟨rfl, hwa⟩
           have HTwa := Lib.hid hwa
           have HSwax := Lib.hid (HAT.out wa HTwa.out.own.bel)
           clear hwa))
      clear cwa HSwr HDwr HSDwr HSwax
      have HSwa := Lib.hid (HAT.out wa HTwa.out.own.bel)
      have HDwa := Lib.hid (HTwa.out.later (Below.refl _ wa).drew)
      have HSDwa := Lib.hid (HAT.out wa.drew HDwa.out.own.bel)
      have cwb := HDwa.out.addX FP.out FB.out FT.out (by have := HM.out; omega)
      rw [HADD.out] at cwb
      go_wp2_with fail
      go_region_held3 (fun w' => At4 w' (ad.add (k * 4)) x0 x1 x2 x3) (first | with_reducible exact HSwbx.out | with_reducible exact HSDwa.out | with_reducible exact HSwa.out | exact HSDwa.out) (first
        | (go_at_call 9
           refine cwb.mono ?_
           rintro e wb ⟨rfl, hwb⟩
           have HTwb := Lib.hid hwb
           have HSwbx := Lib.hid (HAT.out wb HTwb.out.own.bel)
           clear hwb))
      clear cwb HSwa HDwa HSDwa HSwbx
      have HSwb := Lib.hid (HAT.out wb HTwb.out.own.bel)
      have HDwb := Lib.hid (HTwb.out.later (Below.refl _ wb).drew)
      have HSDwb := Lib.hid (HAT.out wb.drew HDwb.out.own.bel)
      have cwc := HDwb.out.addP FP.out FB.out FT.out (by have := HM.out; omega)
      rw [HADD.out] at cwc
      go_wp2_with fail
      go_region_held3 (fun w' => At4 w' (ad.add (k * 4)) x0 x1 x2 x3) (first | with_reducible exact HSwcx.out | with_reducible exact HSDwb.out | with_reducible exact HSwb.out | exact HSDwb.out) (first
        | (go_at_call 9
           refine cwc.mono ?_
           rintro e wc ⟨rfl, hwc⟩
           have HTwc := Lib.hid hwc
           have HSwcx := Lib.hid (HAT.out wc HTwc.out.own.bel)
           clear hwc))
      clear cwc HSwb HDwb HSDwb HSwcx
      go_wp2
      go_roundw
      case rel => exact ⟨k + 1, M', by simp, hgo, HTwc.out, HM'.out⟩
      case measure => simp [intOf] <;> omega
    · have hkI : ¬ (k : Int) < (N1 : Int) := by omega
      obtain ⟨wo, hwo⟩ : ∃ wo, wo = wr := ⟨_, rfl⟩
      subst hwo
      have hML : M.length ≤ 100 := by have := HM.out; omega
      have hXL : X.length ≤ 100 := by rw [HN2.out]; omega
      have HML := Lib.hid hML
      obtain ⟨L1, er, hrun⟩ : ∃ L1 er, runC t M X = (L1, er) := ⟨_, _, rfl⟩
      have HRUN := Lib.hid hrun
      have HL1 : Hid (L1.length ≤ 200) := Lib.hid (by have := runC_len (t := t) (X := X) HTr.out.gM HFX.out; rw [hrun] at this; simp only at this; omega)
      have cP := applyT HTr.out (.slice ax N2 capx) X t HXW.out HFX.out HT.out (by omega) (by omega)
      rw [hrun] at cP
      clear hrun hML hXL hk HM
      go_wp2_with fail
      refine cP.mono ?_
      rintro e w6 ⟨v6, Y, rfl, hT6, ho6, hn6, hc6⟩
      have HT6 := Lib.hid hT6; have HO6 := Lib.hid ho6; have HN6 := Lib.hid hn6; have HC6 := Lib.hid hc6
      clear hT6 ho6 hn6 hc6 cP
      obtain ⟨K4, hK4⟩ : ∃ K4, w6.heap.size = K4 := ⟨_, rfl⟩
      obtain ⟨w7, hw7⟩ : ∃ w7, w7 = w6.alloc (.cells #[.slice none 0 0, .slice none 0 0] 32) := ⟨_, rfl⟩
      have HF7 : Hid (Fin4 w2 K K2 K3 K4 L1 M M [] v6 Y w7) := Lib.hid (by
        have b7 : Below w6.heap.size w6 w7 := by rw [hw7]; exact (Below.refl _ w6).alloc (Nat.le_refl _) _
        obtain ⟨_, _, _, _, l2⟩ := HT6.out.rx.row
        obtain ⟨_, _, _, _, l3⟩ := HT6.out.rp.row
        exact ⟨HT6.out.later b7, by rw [hw7, ← hK4]; exact RefO.new HT6.out.own.bel.size, GoodC.nil, HO6.out.below b7, by omega, by omega⟩)
      have hw7' := hw7.symm
      clear hw7
      go_wp2_with fail
      clear hw7' hK4
      go_loopw [13, 15] (fun f i wr => L2Rel w2 K K2 K3 K4 L1 M v6 Y t X f i wr) (fun _ i _ => N2 + 1 - (intOf i).toNat)
      case atStart => exact ⟨0, 0, M, rfl, rfl, Nat.zero_le _, HF7.out, by unfold XInv; rw [if_pos rfl]; rfl, Nat.le_refl _⟩
      case round =>
        obtain ⟨k2, fi, M2, rfl, rfl, hk2, hF2, hI2, hM2⟩ := hrel
        rw [HN2.out] at hk2
        have HF2 := Lib.hid hF2; have HI2 := Lib.hid hI2
        have HM2 : Hid (M2.length ≤ 300) := Lib.hid (by have := HML.out; omega)
        have HMK := Lib.hid hM2
        clear hF2 hI2 hM2
        have hparts : (k2 < N2 ∧ fi = 0) ∨ (k2 < N2 ∧ fi ≠ 0) ∨ ¬ k2 < N2 := by omega
        rcases hparts with ⟨hgo, hfi⟩ | hexit
        · subst hfi
          have hkI2 : (k2 : Int) < (N2 : Int) := by omega
          have hkL : k2 < X.length := by rw [HN2.out]; exact hgo
          obtain ⟨adx, rfl, hadr⟩ := HCX.out k2 hkL
          obtain ⟨z0, z1, zy, hz⟩ : ∃ z0 z1 zy, X[k2] = ((z0, z1), zy) := ⟨_, _, _, rfl⟩
          have HAX : Hid (∀ W, Below w2.heap.size w2 W → At3 W (adx.add (k2 * 3)) z0 z1 zy) := Lib.hid (fun W hW => by
            have := chgs_at HVX.out (HB2.out.trans (hW.mono HB2.out.size)) hkL
            rw [hz] at this
            exact this)
          have hfit : FitsCh ((z0, z1), zy) := by rw [← hz]; exact HFX.out _ (List.getElem_mem hkL)
          obtain ⟨fp, fy⟩ := hfit
          simp only at fp fy
          obtain ⟨M3, e3, hadd⟩ : ∃ M3 e3, addC M2 (z0, z1) zy t = (M3, e3) := ⟨_, _, rfl⟩
          have HNX : Hid (XInv t M X (k2 + 1) e3 M3) := Lib.hid (HI2.out.next hkL (by rw [hz]; exact hadd))
          have HM3 : Hid (M3.length ≤ M2.length + 1) := Lib.hid (by have := addC_len HF2.out.tri.gM.ris (z0, z1) zy t; rw [hadd] at this; exact this)
          have HBD := Lib.hid (HF2.out.later (Below.refl _ wr).drew)
          have cX := HBD.out.addX fp fy HT.out (by have := HM2.out; omega)
          rw [hadd] at cX
          have HSr := Lib.hid (HAX.out wr HF2.out.tri.own.bel)
          have HSD := Lib.hid (HAX.out wr.drew HBD.out.tri.own.bel)
          clear hz hadr hkL fp fy hadd
          go_wp2_with fail
          go_region_held3 (fun w' => At3 w' (adx.add (k2 * 3)) z0 z1 zy) (first | with_reducible exact HSx.out | with_reducible exact HSD.out | with_reducible exact HSr.out | exact HSD.out) (first
            | (go_at_call 9
               refine cX.mono ?_
               rintro e w8 ⟨rfl, h8⟩
               have HF8 := Lib.hid h8
               have HSx := Lib.hid (HAX.out w8 HF8.out.tri.own.bel)
               clear h8))
          go_wp2
          go_roundw
          case rel => exact ⟨k2 + 1, e3, M3, rfl, by simp, by rw [HN2.out]; omega, HF8.out, HNX.out, by have := HM3.out; have := HMK.out; omega⟩
          case measure => simp [intOf] <;> omega
        · have HFN : Hid (runC t M X = (M2, fi)) := Lib.hid (HI2.out.fin (by rw [HN2.out]; omega))
          obtain ⟨e1, e2⟩ := Prod.mk.inj (HRUN.out.symm.trans HFN.out)
          subst e1
          subst e2
          obtain ⟨wp, hwp⟩ : ∃ wp, wp = wr := ⟨_, rfl⟩
          subst hwp
          clear HFN HI2 HM2 HMK
          rcases hexit with hexit | hexit
          case' inl =>
            have hkI2 : (k2 : Int) < (N2 : Int) := by omega
            have hfz : (er == 0) = false := by simp [hexit.2]
            clear hexit
            go_wp2_with fail
            clear hfz hkI2
          case' inr =>
            have hkI2 : ¬ (k2 : Int) < (N2 : Int) := by omega
            clear hexit
            go_wp2_with fail
            clear hkI2
          all_goals (
            go_loopw [16] (fun i wr => L3Rel w2 K K2 K3 K4 L1 M v6 Y X i wr) (fun i _ => N2 + 1 - (intOf i).toNat)
            case atStart => exact ⟨0, [], rfl, Nat.zero_le _, HF2.out, OInv.start _ _ _⟩
            case round =>
              obtain ⟨k3, O, rfl, hk3, hF3, hI3⟩ := hrel
              rw [HN2.out] at hk3
              have HF3 := Lib.hid hF3; have HI3 := Lib.hid hI3
              have HOL : Hid (O.length ≤ 100) := Lib.hid (by have := hI3.2.1; omega)
              clear hF3 hI3
              by_cases hgo3 : k3 < N2
              · have hkI3 : (k3 : Int) < (N2 : Int) := by omega
                have hkL : k3 < X.length := by rw [HN2.out]; exact hgo3
                obtain ⟨adx, rfl, hadr⟩ := HCX.out k3 hkL
                obtain ⟨z0, z1, zy, hz⟩ : ∃ z0 z1 zy, X[k3] = ((z0, z1), zy) := ⟨_, _, _, rfl⟩
                have HAX : Hid (∀ W, Below w2.heap.size w2 W → At3 W (adx.add (k3 * 3)) z0 z1 zy) := Lib.hid (fun W hW => by
                  have := chgs_at HVX.out (HB2.out.trans (hW.mono HB2.out.size)) hkL
                  rw [hz] at this
                  exact this)
                have hfit : FitsCh ((z0, z1), zy) := by rw [← hz]; exact HFX.out _ (List.getElem_mem hkL)
                have FP := Lib.hid hfit.1
                have HSK : Hid (getC L1 (z0, z1) = getC M (z0, z1) ∨ getC O (z0, z1) ≠ 0 → OInv M L1 X (k3 + 1) O) := Lib.hid (fun hs => HI3.out.skip hkL (by rw [hz]; exact hs))
                have HNW : Hid (getC L1 (z0, z1) ≠ getC M (z0, z1) → getC O (z0, z1) = 0 → addC O (z0, z1) 1 1 = (insC (z0, z1) 1 O, 0) ∧ OInv M L1 X (k3 + 1) (insC (z0, z1) 1 O)) := Lib.hid (fun h1 h2 => by
                  have := HI3.out.new hkL (by rw [hz]; exact h1) (by rw [hz]; exact h2)
                  rw [hz] at this
                  exact this)
                have HBD := Lib.hid (HF3.out.later (Below.refl _ wr).drew)
                have HSr := Lib.hid (HAX.out wr HF3.out.tri.own.bel)
                have HSD := Lib.hid (HAX.out wr.drew HBD.out.tri.own.bel)
                obtain ⟨g1, hg1⟩ : ∃ g1, getC L1 (z0, z1) = g1 := ⟨_, rfl⟩
                obtain ⟨g2, hg2⟩ : ∃ g2, getC M (z0, z1) = g2 := ⟨_, rfl⟩
                obtain ⟨g3, hg3⟩ : ∃ g3, getC O (z0, z1) = g3 := ⟨_, rfl⟩
                have G1 := Lib.hid hg1; have G2 := Lib.hid hg2; have G3 := Lib.hid hg3
                rw [hg1, hg2, hg3] at HSK HNW
                clear hz hadr hkL hfit hg1 hg2 hg3
                by_cases hsame : g1 = g2
                · subst hsame
                  have HSK1 := Lib.hid (HSK.out (.inl rfl))
                  have key : ∀ n os, Below w2.heap.size w2 (Sort.grow (wr.drewN n) os) := fun n os => (HF3.out.later (grown_below wr n os)).tri.own.bel
                  have m0 : ∀ n os, (Sort.grow (wr.drewN n) os).cell? (adx.add (k3 * 3)) = some (.int .i64 z0) := fun n os => (HAX.out _ (key n os)).1
                  have m1 : ∀ n os, (Sort.grow (wr.drewN n) os).cell? ⟨(adx.add (k3 * 3)).block, (adx.add (k3 * 3)).off + 1, none⟩ = some (.int .i64 z1) := fun n os => (HAX.out _ (key n os)).2.1
                  have cX := rgetG HF3.out.tri.rx z0 z1 (by have := HL1.out; omega)
                  have cP := rgetG HF3.out.tri.rp z0 z1 (by have := HML.out; omega)
                  rw [G1.out] at cX
                  rw [G2.out] at cP
                  have hd0 : (g1 != g1) = false := by simp
                  clear key
                  go_wp2_with fail
                  refine wp_region_quiet_grown (by assumption) (by kernel_rfl) ?_
                  repeat (first | go_big_quiet_skip | quiet_step (first | (go_at_call 11; with_reducible refine cX _ _) | (go_at_call 11; with_reducible refine cP _ _)))
                  refine wpQuiet_nil ?_
                  intro _ hw'
                  obtain ⟨⟨nq, osq⟩, hw''⟩ := hw'
                  subst hw''
                  have HFb := Lib.hid (HF3.out.later (grown_below wr nq osq))
                  clear m0 m1 cX cP hd0
                  generalize Sort.grow (wr.drewN nq) osq = wz at *
                  go_wp2
                  go_roundw
                  case rel => exact ⟨k3 + 1, O, by simp, by rw [HN2.out]; omega, HFb.out, HSK1.out⟩
                  case measure => simp [intOf] <;> omega
                · have hd1 : (g1 == g2) = false := by simp [hsame]
                  have hd2 : (g1 != g2) = true := by simp [hsame]
                  have HNE := Lib.hid hsame
                  clear hsame
                  by_cases hz3 : g3 = 0
                  · subst hz3
                    have HNW1 := Lib.hid (HNW.out HNE.out rfl)
                    go_wp2_with fail
                    go_region_held3 (fun w' => At3 w' (adx.add (k3 * 3)) z0 z1 zy) (first | with_reducible exact HSc.out | with_reducible exact HSb.out | with_reducible exact HSa.out | with_reducible exact HSD.out | with_reducible exact HSr.out | exact HSD.out) (first
                      | (go_at_call 11
                         have cG := rgetO (p := z0) (q := z1) HFb.out.ro (by have := HOL.out; omega)
                         rw [G3.out] at cG
                         refine cG.mono ?_
                         rintro e wc ⟨rfl, hc⟩
                         have HFc := Lib.hid (HFb.out.later hc)
                         have HSc := Lib.hid (HAX.out wc HFc.out.tri.own.bel)
                         clear hc cG)
                      | (go_at_call 11
                         have cG := rgetO (p := z0) (q := z1) HFa.out.tri.rp (by have := HML.out; omega)
                         rw [G2.out] at cG
                         refine cG.mono ?_
                         rintro e wb ⟨rfl, hb⟩
                         have HFb := Lib.hid (HFa.out.later hb)
                         have HSb := Lib.hid (HAX.out wb HFb.out.tri.own.bel)
                         clear hb cG)
                      | (go_at_call 11
                         have cG := rgetO (p := z0) (q := z1) HBD.out.tri.rx (by have := HL1.out; omega)
                         rw [G1.out] at cG
                         refine cG.mono ?_
                         rintro e wa ⟨rfl, ha⟩
                         have HFa := Lib.hid (HBD.out.later ha)
                         have HSa := Lib.hid (HAX.out wa HFa.out.tri.own.bel)
                         clear ha cG))
                    obtain ⟨c0, c1, c2⟩ := HAX.out wc HFc.out.tri.own.bel
                    have f1 : FitsZ 1 := by unfold FitsZ; omega
                    have cO := HFc.out.addO FP.out f1 f1 (by have := HOL.out; omega)
                    rw [HNW1.out.1] at cO
                    clear f1 hd1 hd2
                    go_wp2_with fail
                    refine cO.mono ?_
                    rintro e wd ⟨rfl, hd⟩
                    have HFd := Lib.hid hd
                    clear hd cO c0 c1 c2
                    go_wp2
                    go_roundw
                    case rel => exact ⟨k3 + 1, insC (z0, z1) 1 O, by simp, by rw [HN2.out]; omega, HFd.out, HNW1.out.2⟩
                    case measure => simp [intOf] <;> omega
                  · have hd3 : (g3 == 0) = false := by simp [hz3]
                    have HSK1 := Lib.hid (HSK.out (.inr hz3))
                    clear hz3
                    go_wp2_with fail
                    go_region_held3 (fun w' => At3 w' (adx.add (k3 * 3)) z0 z1 zy) (first | with_reducible exact HSc.out | with_reducible exact HSb.out | with_reducible exact HSa.out | with_reducible exact HSD.out | with_reducible exact HSr.out | exact HSD.out) (first
                      | (go_at_call 11
                         have cG := rgetO (p := z0) (q := z1) HFb.out.ro (by have := HOL.out; omega)
                         rw [G3.out] at cG
                         refine cG.mono ?_
                         rintro e wc ⟨rfl, hc⟩
                         have HFc := Lib.hid (HFb.out.later hc)
                         have HSc := Lib.hid (HAX.out wc HFc.out.tri.own.bel)
                         clear hc cG)
                      | (go_at_call 11
                         have cG := rgetO (p := z0) (q := z1) HFa.out.tri.rp (by have := HML.out; omega)
                         rw [G2.out] at cG
                         refine cG.mono ?_
                         rintro e wb ⟨rfl, hb⟩
                         have HFb := Lib.hid (HFa.out.later hb)
                         have HSb := Lib.hid (HAX.out wb HFb.out.tri.own.bel)
                         clear hb cG)
                      | (go_at_call 11
                         have cG := rgetO (p := z0) (q := z1) HBD.out.tri.rx (by have := HL1.out; omega)
                         rw [G1.out] at cG
                         refine cG.mono ?_
                         rintro e wa ⟨rfl, ha⟩
                         have HFa := Lib.hid (HBD.out.later ha)
                         have HSa := Lib.hid (HAX.out wa HFa.out.tri.own.bel)
                         clear ha cG))
                    clear hd1 hd2 hd3
                    go_wp2
                    go_roundw
                    case rel => exact ⟨k3 + 1, O, by simp, by rw [HN2.out]; omega, HFc.out, HSK1.out⟩
                    case measure => simp [intOf] <;> omega
              · have hkI3 : ¬ (k3 : Int) < (N2 : Int) := by omega
                obtain rfl : k3 = X.length := by rw [HN2.out]; omega
                have HCS := Lib.hid (HI3.out.fin)
                obtain ⟨oa, oc, o0, horow, _⟩ := HF3.out.ro.row
                obtain ⟨ra, rc, r0, hrrow, hrlt⟩ := HF3.out.tri.rx.row
                obtain ⟨n4, hn4⟩ : ∃ n4, O.length = n4 := ⟨_, rfl⟩
                obtain ⟨n1, hn1⟩ : ∃ n1, L1.length = n1 := ⟨_, rfl⟩
                rw [hn4] at o0 horow
                rw [hn1] at r0 hrrow
                have HRW := Lib.hid hrrow; have HOW := Lib.hid horow
                have HKC : Hid (∀ W, Below wr.heap.size wr W → W.cell? ⟨K2, 0, none⟩ = some (.slice ra n1 rc)) := Lib.hid (fun W hW => (hW.cell hrlt).trans r0)
                have HBD : Hid (Below wr.heap.size wr wr.drew) := Lib.hid (Below.refl _ wr).drew
                have HGOT : Hid (eltsAt pairE wr v6 Y) := Lib.hid HF3.out.got.reads
                have HS0 := Lib.hid r0
                have HSD := Lib.hid (HKC.out _ HBD.out)
                have HYL : Hid (Y.length ≤ 1000) := Lib.hid (by
                  by_cases h0 : er = 0
                  · rw [ChgSet.unique (HC6.out h0) HCS.out, keysC_len]; have := HOL.out; omega
                  · rw [HN6.out h0]; simp)
                clear hrrow horow hn4 hn1 r0 hrlt
                by_cases her : er = 0
                · subst her
                  have HWT : Hid (eltsAt pairE wr (.slice oa n4 oc) Y) := Lib.hid (by rw [ChgSet.unique (HC6.out rfl) HCS.out]; exact HOW.out)
                  go_wp2_with fail
                  clear o0
                  go_region_held3 (fun w' => w'.cell? ⟨K2, 0, none⟩ = some (.slice ra n1 rc)) (first | with_reducible exact HS11.out | with_reducible exact HS10.out | with_reducible exact HS9.out | with_reducible exact HSD.out | with_reducible exact HS0.out | exact HSD.out) (first
                    | (go_at_call 13
                       refine (psame_true _ _ (keysC L1) w10 HO10.out HR10.out (by rw [keysC_len]; have := HL1.out; omega)).mono ?_
                       rintro e w11 ⟨rfl, hb11⟩
                       have HB11 : Hid (Below wr.heap.size wr w11) := Lib.hid (HB10.out.trans (hb11.mono HB10.out.size))
                       have HS11 := Lib.hid (HKC.out _ HB11.out)
                       clear hb11)
                    | (go_at_call 14
                       have cA := allO (HF3.out.later HB9.out).tri.own (by have := HL1.out; omega)
                       refine cA.mono ?_
                       rintro e w10 ⟨v10, rfl, ho10, hb10⟩
                       have HB10 : Hid (Below wr.heap.size wr w10) := Lib.hid (HB9.out.trans (hb10.mono HB9.out.size))
                       have HO10 := Lib.hid ho10.reads
                       have HR10 : Hid (eltsAt pairE w10 (.slice ra n1 rc) (keysC L1)) := Lib.hid (HRW.out.below HB10.out (Nat.le_refl _))
                       have HS10 := Lib.hid (HKC.out _ HB10.out)
                       clear ho10 hb10 cA)
                    | (go_at_call 13
                       refine (psame_true _ _ Y wr.drew (HGOT.out.below HBD.out (Nat.le_refl _)) (HWT.out.below HBD.out (Nat.le_refl _)) (by have := HYL.out; omega)).mono ?_
                       rintro e w9 ⟨rfl, hb9⟩
                       have HB9 : Hid (Below wr.heap.size wr w9) := Lib.hid (HBD.out.trans hb9)
                       have HS9 := Lib.hid (HKC.out _ HB9.out)
                       clear hb9))
                  go_wp2
                  go_ret
                  exact ⟨rfl, HB2.out.trans ((HF3.out.tri.own.bel.trans (HB11.out.mono HF3.out.tri.own.bel.size)).mono HB2.out.size)⟩
                · have hz0 : (er == 0) = false := by simp [her]
                  have hz1 : (er != 0) = true := by simp [her]
                  have HWT : Hid (eltsAt pairE wr (.slice none 0 0) Y) := Lib.hid (by rw [HN6.out her]; exact eltsAt.nil wr)
                  clear her
                  go_wp2_with fail
                  clear o0 hz0 hz1
                  go_region_held3 (fun w' => w'.cell? ⟨K2, 0, none⟩ = some (.slice ra n1 rc)) (first | with_reducible exact HS11.out | with_reducible exact HS10.out | with_reducible exact HS9.out | with_reducible exact HSD.out | with_reducible exact HS0.out | exact HSD.out) (first
                    | (go_at_call 13
                       refine (psame_true _ _ (keysC L1) w10 HO10.out HR10.out (by rw [keysC_len]; have := HL1.out; omega)).mono ?_
                       rintro e w11 ⟨rfl, hb11⟩
                       have HB11 : Hid (Below wr.heap.size wr w11) := Lib.hid (HB10.out.trans (hb11.mono HB10.out.size))
                       have HS11 := Lib.hid (HKC.out _ HB11.out)
                       clear hb11)
                    | (go_at_call 14
                       have cA := allO (HF3.out.later HB9.out).tri.own (by have := HL1.out; omega)
                       refine cA.mono ?_
                       rintro e w10 ⟨v10, rfl, ho10, hb10⟩
                       have HB10 : Hid (Below wr.heap.size wr w10) := Lib.hid (HB9.out.trans (hb10.mono HB9.out.size))
                       have HO10 := Lib.hid ho10.reads
                       have HR10 : Hid (eltsAt pairE w10 (.slice ra n1 rc) (keysC L1)) := Lib.hid (HRW.out.below HB10.out (Nat.le_refl _))
                       have HS10 := Lib.hid (HKC.out _ HB10.out)
                       clear ho10 hb10 cA)
                    | (go_at_call 13
                       refine (psame_true _ _ Y wr.drew (HGOT.out.below HBD.out (Nat.le_refl _)) (HWT.out.below HBD.out (Nat.le_refl _)) (by have := HYL.out; omega)).mono ?_
                       rintro e w9 ⟨rfl, hb9⟩
                       have HB9 : Hid (Below wr.heap.size wr w9) := Lib.hid (HBD.out.trans hb9)
                       have HS9 := Lib.hid (HKC.out _ HB9.out)
                       clear hb9))
                  go_wp2
                  go_ret
                  exact ⟨rfl, HB2.out.trans ((HF3.out.tri.own.bel.trans (HB11.out.mono HF3.out.tri.own.bel.size)).mono HB2.out.size)⟩
          )
end Go.Proofs.Ythgjpkemgpkknaa
