/- Apply of a count, walked. -/
import Derived.Test.YtejcemmhhpbchaaGreatApPV
namespace Go.Proofs.YtejcemmhhpbchaaGreat
open Go.RowKit Go.Maps

def ApRel (w : World) (K C b : Nat) (m0 : Option Nat) (t : Int) (L : Cn) (X : List Chg) (i : Value) (wr : World) : Prop :=
  ∃ (k : Nat) (M W : Cn), i = .int .i64 (k : Int) ∧ k ≤ X.length ∧ ApSt w K C b m0 M W wr ∧ ApInv t L X k M W
/-- What Apply tells, and leaves. -/
def ApplyRet (K : Nat) (m0 : Option Nat) (L : Cn) (X : List Chg) (t : Int) (w : World) (e : Ending) (w' : World) : Prop :=
  ∃ v' Y, e = .returned (.tuple #[v', .int .i64 (runC t L X).2]) ∧ ownE pairE w' w.heap.size v' Y ∧ ((runC t L X).2 ≠ 0 → Y = []) ∧ ((runC t L X).2 = 0 → ChgSet L (runC t L X).1 X Y) ∧ CRet K m0 (runC t L X).1 w w'
set_option maxRecDepth 100000 in
theorem kept_grown {b : Nat} {w w' : World} (h : Kept (fun k => k = b) w w') : w.grownBy w' (some b) := ⟨h.os, h.tape, h.output, h.size, fun i hi hne => h.block i hi fun e => hne (by rw [e])⟩
set_option maxRecDepth 100000 in
set_option maxHeartbeats 8000000 in
theorem apply_any (K : Nat) (m0 : Option Nat) (L : Cn) (v : Value) (X : List Chg) (t : Int) (w : World) (h : Cts w K m0 L) (hg : GoodC L) (hX : ∀ W, Kept (dmineC K m0) w W → eltsAt chgE W v X) (hf : ∀ x ∈ X, FitsCh x) (ht : FitsZ t) (hlX : X.length ≤ 400000) (hlL : L.length ≤ 400000) :
    Calls Tryz.prog 53 #[.pointer (some ⟨K, 0, none⟩), v, .int .i64 t] w fun e w' => ApplyRet K m0 L X t w e w' := by
  have HX := Lib.hid hX; have HF := Lib.hid hf; have HT := Lib.hid ht
  obtain ⟨a, cap, rfl, _⟩ := hX w (Kept.refl _ w)
  obtain ⟨C, hC⟩ : ∃ C, w.heap.size = C := ⟨_, rfl⟩
  obtain ⟨w1, hw1⟩ : ∃ w1, w1 = w.alloc (.cells #[.pointer (some ⟨K, 0, none⟩)] 63) := ⟨_, rfl⟩
  obtain ⟨b, hb⟩ : ∃ b, w1.heap.size = b := ⟨_, rfl⟩
  obtain ⟨w2, hw2⟩ : ∃ w2, w2 = w1.alloc (.map #[] 0) := ⟨_, rfl⟩
  have hs1 : w1.heap.size = w.heap.size + 1 := by rw [hw1]; simp
  have c1 : w1.cell? ⟨C, 0, none⟩ = some (.pointer (some ⟨K, 0, none⟩)) := by rw [hw1, ← hC]; simp
  have HST : Hid (ApSt w K C b m0 L [] w2) := Lib.hid (by
    have hB1 : Below w.heap.size w w1 := by rw [hw1]; exact (Below.refl _ w).alloc (Nat.le_refl _) _
    have hB2 : Below w1.heap.size w1 w2 := by rw [hw2]; exact (Below.refl _ w1).alloc (Nat.le_refl _) _
    have hbox1 : w1.heap[C]? = some (.cells #[.pointer (some ⟨K, 0, none⟩)] 63 (0, 0)) := by rw [hw1, ← hC]; exact heap_alloc_new w _
    refine ⟨⟨m0, (h.below hB1).below hB2, .inl rfl, fun hm => ?_⟩, (hB2.block C (by omega)).trans hbox1, ?_, Kept.of_below (hB1.trans (hB2.mono hB1.size)) (Nat.le_refl _), by omega, by omega⟩
    · have := h.mlt hm; omega
    · rw [hw2, ← hb]; exact cmap_made w1)
  have HIN := Lib.hid (ApInv.start t X hg)
  obtain ⟨N, hN⟩ : ∃ N, X.length = N := ⟨_, rfl⟩
  have HN := Lib.hid hN
  rw [hN] at HX hlX ⊢
  have hmm := @run_makeMap Tryz.prog
  have hw1' := hw1.symm
  have hw2' := hw2.symm
  clear h hg hX hf ht hw1 hw2 hs1 hN
  go_enter Tryz.func53, Tryz.ntmps53
  go_wp2_with fail
  clear hw1' hw2' hmm c1 hC hb
  go_loopw [19] (fun i wr => ApRel w K C b m0 t L X i wr) (fun i _ => N + 1 - (intOf i).toNat)
  case atStart => exact ⟨0, L, [], rfl, Nat.zero_le _, HST.out, HIN.out⟩
  case round =>
    obtain ⟨k, M, W, rfl, hk, hS, hI⟩ := hrel
    rw [HN.out] at hk
    have HS := Lib.hid hS; have HI := Lib.hid hI
    have hlM : M.length ≤ 800000 := by have := hI.lenM; omega
    have hlW : W.length ≤ 400000 := by have := hI.lenW; omega
    clear hS hI
    by_cases hgo : k < N
    · have hkI : (k : Int) < (N : Int) := by omega
      have hkL : k < X.length := by rw [HN.out]; exact hgo
      have hEl := HX.out wr HS.out.kept
      obtain ⟨ad, rfl⟩ : ∃ ad, a = some ad := by
        obtain ⟨_, _, e, hc⟩ := hEl
        obtain ⟨ad, e2, _⟩ := hc k hkL
        exact ⟨ad, (Value.slice.inj e).1.trans e2⟩
      obtain ⟨e0, e1, e2⟩ := chgs_at hEl (Below.refl _ wr) hkL
      obtain ⟨z0, z1, zy, hz⟩ : ∃ z0 z1 zy, X[k] = ((z0, z1), zy) := ⟨_, _, _, rfl⟩
      rw [hz] at e0 e1 e2
      simp only at e0 e1 e2
      have hfit : FitsCh ((z0, z1), zy) := by rw [← hz]; exact HF.out _ (List.getElem_mem hkL)
      obtain ⟨fp, fy⟩ := hfit
      simp only at fp fy
      have FP := Lib.hid fp; have FY := Lib.hid fy
      obtain ⟨M', er, hadd⟩ : ∃ M' er, addC M (z0, z1) zy t = (M', er) := ⟨_, _, rfl⟩
      have HADD := Lib.hid hadd
      have HNX : Hid (∀ W', er = 0 → ((inC W (z0, z1) = true ∧ W' = W) ∨ (inC W (z0, z1) = false ∧ W' = insC (z0, z1) (getC M (z0, z1)) W)) → ApInv t L X (k + 1) M' W') := Lib.hid (fun W' he hW => by
        subst he
        refine HI.out.next hkL ?_ ?_ ?_
        · rw [hz]; exact hadd
        · rw [hz]; exact fp
        · rw [hz]; exact hW)
      have HSP : Hid (er ≠ 0 → runC t L X = (M', er)) := Lib.hid (fun he => HI.out.stop hkL (by rw [hz]; exact hadd) he)
      obtain ⟨bx, hbx⟩ : ∃ bx, wr.heap.size = bx := ⟨_, rfl⟩
      obtain ⟨w3, hw3⟩ : ∃ w3, w3 = wr.alloc (.cells #[.int .i64 z0, .int .i64 z1, .int .i64 zy] 101) := ⟨_, rfl⟩
      have HB3 : Hid (Below wr.heap.size wr w3) := Lib.hid (by rw [hw3]; exact (Below.refl _ wr).alloc (Nat.le_refl _) _)
      have HS3 := Lib.hid (HS.out.later HB3.out)
      have hs3 : bx < w3.heap.size := by rw [hw3, ← hbx]; simp
      have HNB : Hid (bx ≠ b) := Lib.hid (by have := HS.out.was.lt; omega)
      have d0 : w3.cell? ⟨bx, 0, none⟩ = some (.int .i64 z0) := by rw [hw3, ← hbx]; simp
      have d1 : w3.cell? ⟨bx, 1, none⟩ = some (.int .i64 z1) := by rw [hw3, ← hbx]; simp
      have d2 : w3.cell? ⟨bx, 2, none⟩ = some (.int .i64 zy) := by rw [hw3, ← hbx]; simp
      have c3 := HS3.out.cell
      have hlk := look2_c HS3.out.was FP.out
      unfold pv at hlk
      simp only at hlk
      have hw3' := hw3.symm
      clear hEl hz fp fy hadd hw3 hkL
      generalize hgw : getC W (z0, z1) = gw at *
      cases hin : inC W (z0, z1) with
      | true =>
        rw [hin] at hlk
        have HNY : Hid (er = 0 → ApInv t L X (k + 1) M' W) := Lib.hid (fun he => HNX.out W he (.inl ⟨hin, rfl⟩))
        have cA := HS3.out.add HI.out.good FP.out FY.out HT.out (by omega)
        rw [HADD.out] at cA
        clear hin hgw HNX
        go_wp2_with fail
        clear hw3' hlk hbx e0 e1 e2
        refine cA.mono ?_
        rintro e w6 ⟨rfl, hs6⟩
        have HS6 := Lib.hid hs6
        clear hs6 cA d0 d1 d2 c3
        by_cases her : er = 0
        · subst her
          have HNZ := Lib.hid (HNY.out rfl)
          go_wp2
          go_roundw
          case rel => exact ⟨k + 1, M', W, by simp, by rw [HN.out]; omega, HS6.out, HNZ.out⟩
          case measure => simp [intOf] <;> omega
        · have hne : (er == 0) = false := by simp [her]
          have HRN := Lib.hid (HSP.out her)
          have HER := Lib.hid her
          clear her
          go_wp2
          go_ret2
          exact ⟨.slice none 0 0, [], by rw [HRN.out]; rfl, ownE.nil _ _, fun _ => rfl, fun e => absurd (by rw [HRN.out] at e; exact e) HER.out, by rw [HRN.out]; exact HS6.out.ret⟩
      | false =>
        rw [hin] at hlk
        obtain ⟨g, hgg⟩ : ∃ g, getC M (z0, z1) = g := ⟨_, rfl⟩
        have hgf : FitsZ g := by have := HI.out.good.get (z0, z1); rw [hgg] at this; exact ⟨by omega, this.2⟩
        have HGF := Lib.hid hgf
        have HNY : Hid (er = 0 → ApInv t L X (k + 1) M' (insC (z0, z1) g W)) := Lib.hid (fun he => HNX.out _ he (.inr ⟨hin, by rw [hgg]⟩))
        have HBD : Hid (Below w3.heap.size w3 w3.drew) := Lib.hid (Below.refl _ w3).drew
        have HGT : Hid (Calls Tryz.prog 39 #[.pointer (some ⟨K, 0, none⟩), .agg #[.int .i64 z0, .int .i64 z1]] w3.drew fun e w' => e = .returned (.int .i64 g) ∧ Below w3.heap.size w3 w') := Lib.hid (by
          obtain ⟨m, hm, _⟩ := (HS3.out.later HBD.out).obj
          refine (dget_any K m M z0 z1 w3.drew hm FP.out).mono ?_
          rintro e w' ⟨rfl, rfl⟩
          exact ⟨by rw [hgg], (HBD.out.alloc HBD.out.size _).drew⟩)
        have HSW : Hid (∀ W', Below w3.heap.size w3 W' → W'.cell? ⟨bx, 0, none⟩ = some (.int .i64 z0) ∧ W'.cell? ⟨bx, 1, none⟩ = some (.int .i64 z1) ∧ W'.cell? ⟨C, 0, none⟩ = some (.pointer (some ⟨K, 0, none⟩))) := Lib.hid (fun W' hW => ⟨(hW.cell hs3).trans d0, (hW.cell hs3).trans d1, (hW.cell HS3.out.ltC).trans c3⟩)
        have HZ0 := Lib.hid (HSW.out w3 (Below.refl _ _))
        have HZ1 := Lib.hid (HSW.out w3.drew HBD.out)
        have HD2 := Lib.hid d2
        clear hin hgw hgg HNX
        go_wp2_with fail
        clear hw3' hlk hbx e0 e1 e2
        go_region_held3 (fun w' => w'.cell? ⟨bx, 0, none⟩ = some (.int .i64 z0) ∧ w'.cell? ⟨bx, 1, none⟩ = some (.int .i64 z1) ∧ w'.cell? ⟨C, 0, none⟩ = some (.pointer (some ⟨K, 0, none⟩))) (first | exact HZ0.out | exact HZ1.out | exact HZ4.out | exact HZ5.out) (first
          | (go_at_call 39
             refine HGT.out.mono ?_
             rintro e w4 ⟨rfl, hb4⟩
             have HB4 := Lib.hid hb4
             have HS4 := Lib.hid (HS3.out.later hb4)
             obtain ⟨w5, hput, hcm5, ht5⟩ := put_c HS4.out.was FP.out HGF.out (by omega)
             have HT5 := Lib.hid ht5
             have HS5 := Lib.hid (HS4.out.put ht5.grown hcm5)
             have HZ4 := Lib.hid (HSW.out w4 hb4)
             have HZ5 : Hid (w5.cell? ⟨bx, 0, none⟩ = some (.int .i64 z0) ∧ w5.cell? ⟨bx, 1, none⟩ = some (.int .i64 z1) ∧ w5.cell? ⟨C, 0, none⟩ = some (.pointer (some ⟨K, 0, none⟩))) := Lib.hid ⟨(turned_cell ht5 _ HNB.out).trans HZ4.out.1, (turned_cell ht5 _ HNB.out).trans HZ4.out.2.1, HS5.out.cell⟩
             unfold pv at hput
             simp only at hput
             clear hb4 hcm5 ht5))
        all_goals (
          obtain ⟨y0, y1, y3⟩ := HZ5.out
          have y2 : w5.cell? ⟨bx, 2, none⟩ = some (.int .i64 zy) := (turned_cell HT5.out _ HNB.out).trans ((HB4.out.cell hs3).trans HD2.out)
          have cA := HS5.out.add HI.out.good FP.out FY.out HT.out (by omega)
          rw [HADD.out] at cA
          clear hput d0 d1 d2 c3
          go_wp2_with fail
          refine cA.mono ?_
          rintro e w6 ⟨rfl, hs6⟩
          have HS6 := Lib.hid hs6
          clear hs6 cA y0 y1 y2 y3
          by_cases her : er = 0
          · subst her
            have HNZ := Lib.hid (HNY.out rfl)
            go_wp2
            go_roundw
            case rel => exact ⟨k + 1, M', insC (z0, z1) g W, by simp, by rw [HN.out]; omega, HS6.out, HNZ.out⟩
            case measure => simp [intOf] <;> omega
          · have hne : (er == 0) = false := by simp [her]
            have HRN := Lib.hid (HSP.out her)
            have HER := Lib.hid her
            clear her
            go_wp2
            go_ret2
            exact ⟨.slice none 0 0, [], by rw [HRN.out]; rfl, ownE.nil _ _, fun _ => rfl, fun e => absurd (by rw [HRN.out] at e; exact e) HER.out, by rw [HRN.out]; exact HS6.out.ret⟩)
    · have hkI : ¬ (k : Int) < (N : Int) := by omega
      obtain rfl : k = X.length := by rw [HN.out]; omega
      obtain ⟨m, hE⟩ := HS.out.env
      have cD := delf_any b C K m W M wr HS.out.was hE
      clear hE
      go_wp2_with fail
      refine cD.mono ?_
      rintro e w7 ⟨rfl, Z, hZ, hmZ, hk7⟩
      have HS7 := Lib.hid (HS.out.put (kept_grown hk7) hZ)
      have HFN := Lib.hid (HI.out.fin (CMap.ris hZ) hmZ)
      have hlZ : Z.length ≤ 1000000 := by
        have h1 : Z = W.filter (fun x => decide (x.2 ≠ getC M x.1)) := ris_ext (CMap.ris hZ) (List.Pairwise.filter _ HI.out.risW) (fun x => by rw [hmZ, List.mem_filter]; simp)
        rw [h1]
        have := List.length_filter_le (fun x : (Int × Int) × Int => decide (x.2 ≠ getC M x.1)) W
        omega
      have cR := drising_any (some b) Z w7 HS7.out.was hlZ
      clear cD hZ hmZ hk7 hlZ
      go_wp2_with fail
      refine cR.mono ?_
      rintro e w8 ⟨v8, rfl, ho8, hb8⟩
      have HO8 : Hid (ownE pairE w8 w.heap.size v8 (keysC Z)) := Lib.hid (ho8.mono HS7.out.kept.size)
      have HS8 := Lib.hid (HS7.out.later hb8)
      clear ho8 hb8 cR
      go_wp2
      go_ret2
      exact ⟨v8, keysC Z, by rw [HFN.out.1]; rfl, HO8.out, fun e => absurd (by rw [HFN.out.1]) e, fun _ => by rw [HFN.out.1]; exact HFN.out.2, by rw [HFN.out.1]; exact HS8.out.ret⟩
end Go.Proofs.YtejcemmhhpbchaaGreat
