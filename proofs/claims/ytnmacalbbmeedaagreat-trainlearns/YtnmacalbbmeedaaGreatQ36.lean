/- Texts in one: ApW, IxCount, IxMgP. -/
import Derived.Test.YtnmacalbbmeedaaGreatQ18
import Derived.Test.YtnmacalbbmeedaaGreatQ26
import Derived.Test.YtnmacalbbmeedaaGreatQ21
import Derived.Test.YtnmacalbbmeedaaGreatQ19
/- Apply of a count, walked. -/
namespace Go.Proofs.YtnmacalbbmeedaaGreat
open Go.RowKit Go.Maps

def ApRel (w : World) (K C b : Nat) (m0 : Option Nat) (t : Int) (L : Cn) (X : List Chg) (i : Value) (wr : World) : Prop :=
  ∃ (k : Nat) (M W : Cn), i = .int .i64 (k : Int) ∧ k ≤ X.length ∧ ApSt w K C b m0 M W wr ∧ ApInv t L X k M W
/-- What Apply tells, and leaves. -/
def ApplyRet (K : Nat) (m0 : Option Nat) (L : Cn) (X : List Chg) (t : Int) (w : World) (e : Ending) (w' : World) : Prop :=
  ∃ v' Y, e = .returned (.tuple #[v', .int .i64 (runC t L X).2]) ∧ ownE pairE w' w.heap.size v' Y ∧ ((runC t L X).2 ≠ 0 → Y = []) ∧ ((runC t L X).2 = 0 → ChgSet L (runC t L X).1 X Y) ∧ CRet K m0 (runC t L X).1 w w'
set_option maxRecDepth 100000 in
theorem kept_grown {b : Nat} {w w' : World} (h : Kept (fun k => k = b) w w') : w.grownBy w' (some b) := ⟨h.os, h.tape, h.output, h.size, fun i hi hne => h.block i hi fun e => hne (by rw [e])⟩
set_option maxRecDepth 100000 in
set_option maxHeartbeats 8000000 in
theorem apply_any (K : Nat) (m0 : Option Nat) (L : Cn) (v : Value) (X : List Chg) (t : Int) (w : World) (h : Cts w K m0 L) (hg : GoodC L) (hX : ∀ W, Kept (dmineC K m0) w W → eltsAt chgE W v X) (hf : ∀ x ∈ X, FitsCh x) (ht : FitsZ t) (hlX : X.length ≤ 400000) (hlL : L.length ≤ 400000) :
    Calls Tryz.prog 87 #[.pointer (some ⟨K, 0, none⟩), v, .int .i64 t] w fun e w' => ApplyRet K m0 L X t w e w' := by
  have HX := Lib.hid hX; have HF := Lib.hid hf; have HT := Lib.hid ht
  obtain ⟨a, cap, rfl, _⟩ := hX w (Kept.refl _ w)
  obtain ⟨C, hC⟩ : ∃ C, w.heap.size = C := ⟨_, rfl⟩
  obtain ⟨w1, hw1⟩ : ∃ w1, w1 = w.alloc (.cells #[.pointer (some ⟨K, 0, none⟩)] 97) := ⟨_, rfl⟩
  obtain ⟨b, hb⟩ : ∃ b, w1.heap.size = b := ⟨_, rfl⟩
  obtain ⟨w2, hw2⟩ : ∃ w2, w2 = w1.alloc (.map #[] 0) := ⟨_, rfl⟩
  have hs1 : w1.heap.size = w.heap.size + 1 := by rw [hw1]; simp
  have c1 : w1.cell? ⟨C, 0, none⟩ = some (.pointer (some ⟨K, 0, none⟩)) := by rw [hw1, ← hC]; simp
  have HST : Hid (ApSt w K C b m0 L [] w2) := Lib.hid (by
    have hB1 : Below w.heap.size w w1 := by rw [hw1]; exact (Below.refl _ w).alloc (Nat.le_refl _) _
    have hB2 : Below w1.heap.size w1 w2 := by rw [hw2]; exact (Below.refl _ w1).alloc (Nat.le_refl _) _
    have hbox1 : w1.heap[C]? = some (.cells #[.pointer (some ⟨K, 0, none⟩)] 97 (0, 0)) := by rw [hw1, ← hC]; exact heap_alloc_new w _
    refine ⟨⟨m0, (h.below hB1).below hB2, .inl rfl, fun hm => ?_⟩, (hB2.block C (by omega)).trans hbox1, ?_, Kept.of_below (hB1.trans (hB2.mono hB1.size)) (Nat.le_refl _), by omega, by omega⟩
    · have := h.mlt hm; omega
    · rw [hw2, ← hb]; exact cmap_made w1)
  have HIN := Lib.hid (ApInv.start t X hg)
  obtain ⟨N, hN⟩ : ∃ N, X.length = N := ⟨_, rfl⟩
  have HN := Lib.hid hN
  rw [hN] at HX hlX ⊢
  have hmm := @run_makeMap Tryz.prog
  have hw1' := hw1.symm
  have hw2' := hw2.symm
  clear h hg hX hf ht hw1 hw2 hs1 hN
  go_enter Tryz.func87, Tryz.ntmps87
  go_wp2_with fail
  clear hw1' hw2' hmm c1 hC hb
  go_loopw [19] (fun i wr => ApRel w K C b m0 t L X i wr) (fun i _ => N + 1 - (intOf i).toNat)
  case atStart => exact ⟨0, L, [], rfl, Nat.zero_le _, HST.out, HIN.out⟩
  case round =>
    obtain ⟨k, M, W, rfl, hk, hS, hI⟩ := hrel
    rw [HN.out] at hk
    have HS := Lib.hid hS; have HI := Lib.hid hI
    have hlM : M.length ≤ 800000 := by have := hI.lenM; omega
    have hlW : W.length ≤ 400000 := by have := hI.lenW; omega
    clear hS hI
    by_cases hgo : k < N
    · have hkI : (k : Int) < (N : Int) := by omega
      have hkL : k < X.length := by rw [HN.out]; exact hgo
      have hEl := HX.out wr HS.out.kept
      obtain ⟨ad, rfl⟩ : ∃ ad, a = some ad := by
        obtain ⟨_, _, e, hc⟩ := hEl
        obtain ⟨ad, e2, _⟩ := hc k hkL
        exact ⟨ad, (Value.slice.inj e).1.trans e2⟩
      obtain ⟨e0, e1, e2⟩ := chgs_at hEl (Below.refl _ wr) hkL
      obtain ⟨z0, z1, zy, hz⟩ : ∃ z0 z1 zy, X[k] = ((z0, z1), zy) := ⟨_, _, _, rfl⟩
      rw [hz] at e0 e1 e2
      simp only at e0 e1 e2
      have hfit : FitsCh ((z0, z1), zy) := by rw [← hz]; exact HF.out _ (List.getElem_mem hkL)
      obtain ⟨fp, fy⟩ := hfit
      simp only at fp fy
      have FP := Lib.hid fp; have FY := Lib.hid fy
      obtain ⟨M', er, hadd⟩ : ∃ M' er, addC M (z0, z1) zy t = (M', er) := ⟨_, _, rfl⟩
      have HADD := Lib.hid hadd
      have HNX : Hid (∀ W', er = 0 → ((inC W (z0, z1) = true ∧ W' = W) ∨ (inC W (z0, z1) = false ∧ W' = insC (z0, z1) (getC M (z0, z1)) W)) → ApInv t L X (k + 1) M' W') := Lib.hid (fun W' he hW => by
        subst he
        refine HI.out.next hkL ?_ ?_ ?_
        · rw [hz]; exact hadd
        · rw [hz]; exact fp
        · rw [hz]; exact hW)
      have HSP : Hid (er ≠ 0 → runC t L X = (M', er)) := Lib.hid (fun he => HI.out.stop hkL (by rw [hz]; exact hadd) he)
      obtain ⟨bx, hbx⟩ : ∃ bx, wr.heap.size = bx := ⟨_, rfl⟩
      obtain ⟨w3, hw3⟩ : ∃ w3, w3 = wr.alloc (.cells #[.int .i64 z0, .int .i64 z1, .int .i64 zy] 167) := ⟨_, rfl⟩
      have HB3 : Hid (Below wr.heap.size wr w3) := Lib.hid (by rw [hw3]; exact (Below.refl _ wr).alloc (Nat.le_refl _) _)
      have HS3 := Lib.hid (HS.out.later HB3.out)
      have hs3 : bx < w3.heap.size := by rw [hw3, ← hbx]; simp
      have HNB : Hid (bx ≠ b) := Lib.hid (by have := HS.out.was.lt; omega)
      have d0 : w3.cell? ⟨bx, 0, none⟩ = some (.int .i64 z0) := by rw [hw3, ← hbx]; simp
      have d1 : w3.cell? ⟨bx, 1, none⟩ = some (.int .i64 z1) := by rw [hw3, ← hbx]; simp
      have d2 : w3.cell? ⟨bx, 2, none⟩ = some (.int .i64 zy) := by rw [hw3, ← hbx]; simp
      have c3 := HS3.out.cell
      have hlk := look2_c HS3.out.was FP.out
      unfold pv at hlk
      simp only at hlk
      have hw3' := hw3.symm
      clear hEl hz fp fy hadd hw3 hkL
      generalize hgw : getC W (z0, z1) = gw at *
      cases hin : inC W (z0, z1) with
      | true =>
        rw [hin] at hlk
        have HNY : Hid (er = 0 → ApInv t L X (k + 1) M' W) := Lib.hid (fun he => HNX.out W he (.inl ⟨hin, rfl⟩))
        have cA := HS3.out.add HI.out.good FP.out FY.out HT.out (by omega)
        rw [HADD.out] at cA
        clear hin hgw HNX
        go_wp2_with fail
        clear hw3' hlk hbx e0 e1 e2
        refine cA.mono ?_
        rintro e w6 ⟨rfl, hs6⟩
        have HS6 := Lib.hid hs6
        clear hs6 cA d0 d1 d2 c3
        by_cases her : er = 0
        · subst her
          have HNZ := Lib.hid (HNY.out rfl)
          go_wp2
          go_roundw
          case rel => exact ⟨k + 1, M', W, by simp, by rw [HN.out]; omega, HS6.out, HNZ.out⟩
          case measure => simp [intOf] <;> omega
        · have hne : (er == 0) = false := by simp [her]
          have HRN := Lib.hid (HSP.out her)
          have HER := Lib.hid her
          clear her
          go_wp2
          go_ret2
          exact ⟨.slice none 0 0, [], by rw [HRN.out]; rfl, ownE.nil _ _, fun _ => rfl, fun e => absurd (by rw [HRN.out] at e; exact e) HER.out, by rw [HRN.out]; exact HS6.out.ret⟩
      | false =>
        rw [hin] at hlk
        obtain ⟨g, hgg⟩ : ∃ g, getC M (z0, z1) = g := ⟨_, rfl⟩
        have hgf : FitsZ g := by have := HI.out.good.get (z0, z1); rw [hgg] at this; exact ⟨by omega, this.2⟩
        have HGF := Lib.hid hgf
        have HNY : Hid (er = 0 → ApInv t L X (k + 1) M' (insC (z0, z1) g W)) := Lib.hid (fun he => HNX.out _ he (.inr ⟨hin, by rw [hgg]⟩))
        have HBD : Hid (Below w3.heap.size w3 w3.drew) := Lib.hid (Below.refl _ w3).drew
        have HGT : Hid (Calls Tryz.prog 55 #[.pointer (some ⟨K, 0, none⟩), .agg #[.int .i64 z0, .int .i64 z1]] w3.drew fun e w' => e = .returned (.int .i64 g) ∧ Below w3.heap.size w3 w') := Lib.hid (by
          obtain ⟨m, hm, _⟩ := (HS3.out.later HBD.out).obj
          refine (dget_any K m M z0 z1 w3.drew hm FP.out).mono ?_
          rintro e w' ⟨rfl, rfl⟩
          exact ⟨by rw [hgg], (HBD.out.alloc HBD.out.size _).drew⟩)
        have HSW : Hid (∀ W', Below w3.heap.size w3 W' → W'.cell? ⟨bx, 0, none⟩ = some (.int .i64 z0) ∧ W'.cell? ⟨bx, 1, none⟩ = some (.int .i64 z1) ∧ W'.cell? ⟨C, 0, none⟩ = some (.pointer (some ⟨K, 0, none⟩))) := Lib.hid (fun W' hW => ⟨(hW.cell hs3).trans d0, (hW.cell hs3).trans d1, (hW.cell HS3.out.ltC).trans c3⟩)
        have HZ0 := Lib.hid (HSW.out w3 (Below.refl _ _))
        have HZ1 := Lib.hid (HSW.out w3.drew HBD.out)
        have HD2 := Lib.hid d2
        clear hin hgw hgg HNX
        go_wp2_with fail
        clear hw3' hlk hbx e0 e1 e2
        go_region_held3 (fun w' => w'.cell? ⟨bx, 0, none⟩ = some (.int .i64 z0) ∧ w'.cell? ⟨bx, 1, none⟩ = some (.int .i64 z1) ∧ w'.cell? ⟨C, 0, none⟩ = some (.pointer (some ⟨K, 0, none⟩))) (first | exact HZ0.out | exact HZ1.out | exact HZ4.out | exact HZ5.out) (first
          | (go_at_call 55
             refine HGT.out.mono ?_
             rintro e w4 ⟨rfl, hb4⟩
             have HB4 := Lib.hid hb4
             have HS4 := Lib.hid (HS3.out.later hb4)
             obtain ⟨w5, hput, hcm5, ht5⟩ := put_c HS4.out.was FP.out HGF.out (by omega)
             have HT5 := Lib.hid ht5
             have HS5 := Lib.hid (HS4.out.put ht5.grown hcm5)
             have HZ4 := Lib.hid (HSW.out w4 hb4)
             have HZ5 : Hid (w5.cell? ⟨bx, 0, none⟩ = some (.int .i64 z0) ∧ w5.cell? ⟨bx, 1, none⟩ = some (.int .i64 z1) ∧ w5.cell? ⟨C, 0, none⟩ = some (.pointer (some ⟨K, 0, none⟩))) := Lib.hid ⟨(turned_cell ht5 _ HNB.out).trans HZ4.out.1, (turned_cell ht5 _ HNB.out).trans HZ4.out.2.1, HS5.out.cell⟩
             unfold pv at hput
             simp only at hput
             clear hb4 hcm5 ht5))
        all_goals (
          obtain ⟨y0, y1, y3⟩ := HZ5.out
          have y2 : w5.cell? ⟨bx, 2, none⟩ = some (.int .i64 zy) := (turned_cell HT5.out _ HNB.out).trans ((HB4.out.cell hs3).trans HD2.out)
          have cA := HS5.out.add HI.out.good FP.out FY.out HT.out (by omega)
          rw [HADD.out] at cA
          clear hput d0 d1 d2 c3
          go_wp2_with fail
          refine cA.mono ?_
          rintro e w6 ⟨rfl, hs6⟩
          have HS6 := Lib.hid hs6
          clear hs6 cA y0 y1 y2 y3
          by_cases her : er = 0
          · subst her
            have HNZ := Lib.hid (HNY.out rfl)
            go_wp2
            go_roundw
            case rel => exact ⟨k + 1, M', insC (z0, z1) g W, by simp, by rw [HN.out]; omega, HS6.out, HNZ.out⟩
            case measure => simp [intOf] <;> omega
          · have hne : (er == 0) = false := by simp [her]
            have HRN := Lib.hid (HSP.out her)
            have HER := Lib.hid her
            clear her
            go_wp2
            go_ret2
            exact ⟨.slice none 0 0, [], by rw [HRN.out]; rfl, ownE.nil _ _, fun _ => rfl, fun e => absurd (by rw [HRN.out] at e; exact e) HER.out, by rw [HRN.out]; exact HS6.out.ret⟩)
    · have hkI : ¬ (k : Int) < (N : Int) := by omega
      obtain rfl : k = X.length := by rw [HN.out]; omega
      obtain ⟨m, hE⟩ := HS.out.env
      have cD := delf_any b C K m W M wr HS.out.was hE
      clear hE
      go_wp2_with fail
      refine cD.mono ?_
      rintro e w7 ⟨rfl, Z, hZ, hmZ, hk7⟩
      have HS7 := Lib.hid (HS.out.put (kept_grown hk7) hZ)
      have HFN := Lib.hid (HI.out.fin (CMap.ris hZ) hmZ)
      have hlZ : Z.length ≤ 1000000 := by
        have h1 : Z = W.filter (fun x => decide (x.2 ≠ getC M x.1)) := ris_ext (CMap.ris hZ) (List.Pairwise.filter _ HI.out.risW) (fun x => by rw [hmZ, List.mem_filter]; simp)
        rw [h1]
        have := List.length_filter_le (fun x : (Int × Int) × Int => decide (x.2 ≠ getC M x.1)) W
        omega
      have cR := drising_any (some b) Z w7 HS7.out.was hlZ
      clear cD hZ hmZ hk7 hlZ
      go_wp2_with fail
      refine cR.mono ?_
      rintro e w8 ⟨v8, rfl, ho8, hb8⟩
      have HO8 : Hid (ownE pairE w8 w.heap.size v8 (keysC Z)) := Lib.hid (ho8.mono HS7.out.kept.size)
      have HS8 := Lib.hid (HS7.out.later hb8)
      clear ho8 hb8 cR
      go_wp2
      go_ret2
      exact ⟨v8, keysC Z, by rw [HFN.out.1]; rfl, HO8.out, fun e => absurd (by rw [HFN.out.1]) e, fun _ => by rw [HFN.out.1]; exact HFN.out.2, by rw [HFN.out.1]; exact HS8.out.ret⟩
end Go.Proofs.YtnmacalbbmeedaaGreat
/- Changes added to an index's counts. -/
namespace Go.Proofs.YtnmacalbbmeedaaGreat
open Go.RowKit Go.Maps

/-- What count tells, and leaves, where every change can be added. -/
def CountRet (lab : Nat → Lab) (K N : Nat) (V : Int × Int → Value) (M : Mdl) (X : List Chg) (L' : Cn) (w : World) (e : Ending) (w' : World) : Prop :=
  ∃ r Y lab', e = .returned r ∧ ownE pairE w' w.heap.size r Y ∧ ChgSet M.cnt L' X Y ∧ (∀ g, r.ownBlock = some g → lab' g = .no) ∧ IxM w' lab' K N V { M with cnt := L' } ∧ XRet lab w lab' w' ∧ w'.heap[K]? = w.heap[K]?
set_option maxRecDepth 100000 in
set_option maxHeartbeats 4000000 in
theorem xadd_any (K N : Nat) (lab : Nat → Lab) (V : Int × Int → Value) (M : Mdl) (v : Value) (X : List Chg) (L' : Cn) (w : World) (h : IxM w lab K N V M) (hg : GoodC M.cnt) (hv : ∀ W, Kept (Mine lab) w W → eltsAt chgE W v X) (hf : ∀ x ∈ X, FitsCh x) (hr : runC 1 M.cnt X = (L', 0)) (hX : X.length ≤ 400000) (hL : M.cnt.length ≤ 400000) :
    Calls Tryz.prog 66 #[.pointer (some ⟨K, 0, none⟩), v] w fun e w' => CountRet lab K N V M X L' w e w' := by
  have H := Lib.hid h
  obtain ⟨wv, Kc, mc, b, E, h⟩ := h
  have HI := Lib.hid h
  have c1 := h.cells.2.1
  have hmine : ∀ i, dmineC Kc mc i → Mine lab i := by
    rintro i (rfl | e)
    · unfold Mine; rw [h.lc]; simp
    · unfold Mine; rw [h.lm i e.symm]; simp
  have cA := apply_any Kc mc M.cnt v X 1 w h.cts hg (fun W hW => hv W ⟨hW.os, hW.tape, hW.output, hW.size, fun i hi hm => hW.block i hi fun k => hm (hmine i k)⟩) hf (by unfold FitsZ; omega) hX hL
  have HR := Lib.hid hr
  have hel := hv w (Kept.refl _ w)
  obtain ⟨a, cap, rfl, _⟩ := hel
  clear h hv hf hr hg hmine
  go_enter Tryz.func66, Tryz.ntmps66
  go_wp2_with fail
  refine cA.mono ?_
  rintro e w1 ⟨r, Y, rfl, ho, _, hch, hcr⟩
  have HO := Lib.hid ho; have HC := Lib.hid hch; have HCR := Lib.hid hcr
  clear ho hch hcr cA c1
  go_wp2
  go_ret
  have hch := HC.out
  have hcr := HCR.out
  rw [HR.out] at hch hcr
  obtain ⟨lab', h1, h2, hKb, h3⟩ := HI.out.ctsAt hcr
  refine ⟨r, Y, lab', rfl, HO.out, hch rfl, fun g hg => ?_, h1, h2, hKb⟩
  obtain ⟨cs, hcs⟩ := HO.out.block g hg
  cases e : lab' g <;> first | rfl | (
    obtain ⟨es, clock, hm⟩ := h3 g (HO.out.lt g hg).1 (by rw [e]; simp)
    rw [hcs] at hm; cases hm)
end Go.Proofs.YtnmacalbbmeedaaGreat
/- Merging in an index: the states of its walk. -/
namespace Go.Proofs.YtnmacalbbmeedaaGreat
open Go.RowKit Go.Maps

set_option maxRecDepth 100000 in
theorem Kept.mono {S T : Nat → Prop} {w w' : World} (h : Kept S w w') (hs : ∀ i, S i → T i) : Kept T w w' := ⟨h.os, h.tape, h.output, h.size, fun i hi hn => h.block i hi fun k => hn (hs i k)⟩
/-- What a merge has in memory: the index, the changes found so far, the pair, and the pair's slice. -/
structure MgSt (w : World) (lab : Nat → Lab) (K : Nat) (p q : Int) (bx : Nat) (u : Value) (wr : World) (lab' : Nat → Lab) (N : Nat) (V' : Int × Int → Value) (M : Mdl) (fv : Value) (F : List Chg) : Prop where
  ix : IxM wr lab' K N V' M
  ret : XRet lab w lab' wr
  own : ownE chgE wr w.heap.size fv F
  fno : ∀ g, fv.ownBlock = some g → lab' g = .no
  box : wr.heap[bx]? = some (.cells #[.int .i64 p, .int .i64 q] 77 (0, 0))
  bno : lab' bx = .no
  vp : V' (p, q) = u
section
variable {w w1 w2 : World} {lab lab1 lab2 : Nat → Lab} {K N N2 bx : Nat} {p q : Int} {u : Value} {V1 V2 : Int × Int → Value} {M M2 : Mdl} {fv : Value} {F : List Chg}
set_option maxRecDepth 100000 in
theorem MgSt.bxlt (h : MgSt w lab K p q bx u w1 lab1 N V1 M fv F) : bx < w1.heap.size := (Array.getElem?_eq_some_iff.1 h.box).1
set_option maxRecDepth 100000 in
/-- The index's own blocks turn, and new ones come. -/
theorem MgSt.step (h : MgSt w lab K p q bx u w1 lab1 N V1 M fv F) (hi : IxM w2 lab2 K N2 V2 M2) (hx : XRet lab1 w1 lab2 w2) (hv : V2 (p, q) = V1 (p, q)) : MgSt w lab K p q bx u w2 lab2 N2 V2 M2 fv F := by
  obtain ⟨b1, b2⟩ := hx.out h.bxlt h.bno
  exact ⟨hi, h.ret.trans hx, h.own.kept fun g hg => (hx.out (h.own.lt g hg).2 (h.fno g hg)).2, fun g hg => (hx.out (h.own.lt g hg).2 (h.fno g hg)).1, b2.trans h.box, b1, hv.trans h.vp⟩
set_option maxRecDepth 100000 in
theorem MgSt.below (h : MgSt w lab K p q bx u w1 lab1 N V1 M fv F) (hb : Below w1.heap.size w1 w2) : MgSt w lab K p q bx u w2 lab1 N V1 M fv F := h.step (h.ix.below hb) (XRet.below hb) rfl
set_option maxRecDepth 100000 in
theorem MgSt.drew (h : MgSt w lab K p q bx u w1 lab1 N V1 M fv F) : MgSt w lab K p q bx u w1.drew lab1 N V1 M fv F := h.below (Below.refl _ _).drew
set_option maxRecDepth 100000 in
theorem MgSt.bcells (h : MgSt w lab K p q bx u w1 lab1 N V1 M fv F) : w1.cell? ⟨bx, 0, none⟩ = some (.int .i64 p) ∧ w1.cell? ⟨bx, 1, none⟩ = some (.int .i64 q) := by
  refine ⟨?_, ?_⟩ <;> (rw [cell_of_row w1 bx _ _ 77 (0, 0) h.box]; rfl)
set_option maxRecDepth 100000 in
/-- Changes appended. -/
theorem MgSt.app (h : MgSt w lab K p q bx u w1 lab1 N V1 M fv F) {r : Value} {F2 : List Chg} (ho : ownE chgE w2 w.heap.size r F2) (hg : w1.grownBy w2 fv.ownBlock) (hr : r.ownBlock = fv.ownBlock ∨ r.ownBlock = some w1.heap.size) (hbx : fv.ownBlock ≠ some bx) : MgSt w lab K p q bx u w2 lab1 N V1 M r F2 := by
  have hk : Kept (fun i => some i = fv.ownBlock) w1 w2 := (Kept.refl _ w1).grown hg fun k e _ => e.symm
  refine ⟨h.ix.other hk fun i _ e => h.fno i e.symm, ⟨h.ret.kept.trans hk fun i hi e => by have := (h.own.lt i e.symm).1; omega, h.ret.sub⟩, ho, fun g hg2 => ?_, (hg.block bx h.bxlt fun e => hbx e.symm).trans h.box, h.bno, h.vp⟩
  rcases hr with e | e
  · exact h.fno g (by rw [← e]; exact hg2)
  · rw [hg2] at e; cases e; exact h.ix.fresh (Nat.le_refl _)
set_option maxRecDepth 100000 in
theorem MgSt.bxne (h : MgSt w lab K p q bx u w1 lab1 N V1 M fv F) : fv.ownBlock ≠ some bx := fun e => by
  obtain ⟨cs, hc⟩ := h.own.block bx e
  rw [h.box] at hc
  have := congrArg (fun o => match o with | some (Obj.cells _ t _) => t | _ => 0) hc
  simp [chgE] at this
set_option maxRecDepth 100000 in
/-- The places of the pair, as they lie in memory. -/
theorem MgSt.place (h : MgSt w lab K p q bx u w1 lab1 N V1 M fv F) {gu n c k : Nat} (hu : u = .slice (some ⟨gu, 0, none⟩) n c) (hk : k < (M.pl (p, q)).length) : w1.cell? ⟨gu, k, none⟩ = some (.int .i64 (M.pl (p, q))[k]) := by
  obtain ⟨wv, Kc, mc, b, E, hi⟩ := h.ix
  have h1 := hi.rows (p, q)
  rw [h.vp, hu] at h1
  have := ints_cell h1.reads (Below.refl _ _) hk
  rwa [add_zero_off] at this
end
set_option maxRecDepth 100000 in
/-- A word's sequence merged. -/
theorem IxM.merged {w w2 : World} {lab : Nat → Lab} {K N : Nat} {V : Int × Int → Value} {M : Mdl} (h : IxM w lab K N V M) {j k g : Nat} {X X' Y' : List Int} {t : Int} {gw c : Nat} (hj : M.ws[j]? = some (X, t)) (hc : w.cell? ⟨K, 0, none⟩ = some (.slice (some ⟨gw, 0, none⟩) M.ws.length c)) (hp : w.cell? ⟨gw, j * 2, none⟩ = some (.pointer (some ⟨k, 0, none⟩)))
    (hlk : lab k = .box j) (hlg : lab g = .row j) (hs : SeqO w2 k g X' Y') (hk : Kept (fun i => i = g ∨ i = k) w w2) : IxM w2 lab K N V { M with ws := M.ws.set j (X', t) } ∧ XRet lab w lab w2 := by
  obtain ⟨wv, Kc, mc, b, E, h⟩ := h
  obtain ⟨k2, g2, Y, he, _, _, _⟩ := h.seqs j X t hj
  have hk2 : k2 = k := by
    have h1 := h.cells.1
    rw [hc] at h1
    simp only [Option.some.injEq] at h1
    subst h1
    obtain ⟨hjE, he2⟩ := List.getElem?_eq_some_iff.1 he
    have h3 := elts_at h.row.reads (Below.refl _ _) hjE
    rw [he2] at h3
    have h0 := h3 0 _ rfl
    rw [add_zero_off] at h0
    have h4 : w.cell? ⟨gw, j * 2, none⟩ = some (.pointer (some ⟨k2, 0, none⟩)) := h0
    rw [hp] at h4
    simp only [Option.some.injEq, Value.pointer.injEq, Addr.mk.injEq] at h4
    exact h4.1.symm
  subst hk2
  exact ⟨⟨wv, Kc, mc, b, E, h.seqAt he hlk hlg hs hk⟩, hk.mono (by rintro i (rfl | rfl) <;> (unfold Mine; first | (rw [hlk]; simp) | (rw [hlg]; simp))), fun _ _ h => h⟩
set_option maxRecDepth 100000 in
/-- A number of the index written. -/
theorem IxM.numbers {w : World} {lab : Nat → Lab} {K N : Nat} {V : Int × Int → Value} {M : Mdl} (h : IxM w lab K N V M) (z : Int) :
    (IxM (w.setCell ⟨K, 4, none⟩ (.int .i64 z)) lab K N V { M with tou := z } ∧ XRet lab w lab (w.setCell ⟨K, 4, none⟩ (.int .i64 z))) ∧ (IxM (w.setCell ⟨K, 3, none⟩ (.int .i64 z)) lab K N V { M with pos := z } ∧ XRet lab w lab (w.setCell ⟨K, 3, none⟩ (.int .i64 z))) := by
  obtain ⟨wv, Kc, mc, b, E, h⟩ := h
  have hk : ∀ j, Kept (fun i => i = K) w (w.setCell ⟨K, j, none⟩ (.int .i64 z)) := fun j => (Kept.refl _ w).setCell _ _ fun _ => rfl
  have hm : ∀ j, XRet lab w lab (w.setCell ⟨K, j, none⟩ (.int .i64 z)) := fun j => ⟨(hk j).mono (by rintro i rfl; unfold Mine; rw [h.lK]; simp), fun _ _ h => h⟩
  refine ⟨⟨⟨wv, Kc, mc, b, E, h.cellAt (p := M.pos) (t := z) ?_ (hk 4)⟩, hm 4⟩, ⟨⟨wv, Kc, mc, b, E, h.cellAt (p := z) (t := M.tou) ?_ (hk 3)⟩, hm 3⟩⟩
  · rw [heap_setCell_at h.box]; rfl
  · rw [heap_setCell_at h.box]; rfl
set_option maxRecDepth 100000 in
/-- A pair's places deleted. -/
theorem IxM.gone {w : World} {lab : Nat → Lab} {K N : Nat} {V : Int × Int → Value} {M : Mdl} (h : IxM w lab K N V M) {p : Int × Int} (hp : FitsPr p) :
    ∃ b w', w.cell? ⟨K, 2, none⟩ = some (.map (some b)) ∧ (∀ ty, (Builtin.delete_ #[99, 77] ty #[.map (some b), pv p]).run Tryz.prog w = .ok (.tuple #[]) w') ∧ ∃ lab', IxM w' lab' K N (upd V p nilV) { M with pl := upd M.pl p [] } ∧ XRet lab w lab' w' := by
  obtain ⟨wv, Kc, mc, b, E, h⟩ := h
  obtain ⟨w', h1, h2, h3⟩ := vdrop h.vmap hp
  obtain ⟨lab', h4, h5, _⟩ := h.plAt (L' := []) h2 (ownE.nil _ _) ((Kept.refl _ w).grown h3.grown fun k e _ => .inl (by cases e; rfl)) (fun g hg => by cases hg)
  exact ⟨b, w', h.cells.2.2.1, h1, lab', h4, h5⟩
set_option maxRecDepth 100000 in
theorem MgInv.plen {M0 M : Mdl} {p : Int × Int} {s : Int} {k : Nat} {F : List Chg} {L : Cn} {T : Int} {had : Int × Int → Int → Prop} (h : MgInv M0 M p s k F L T) (hg : GoodM M0 s had) (q : Int × Int) : (M.pl q).length ≤ M0.ws.length := by
  by_cases hq : q.1 = s ∨ q.2 = s
  · exact rise_len (h.new q hq).1 fun z hz => hg.inw p z (List.mem_of_mem_take (((h.new q hq).2 z).1 hz).1)
  · rw [h.old q (fun e => hq (.inl e)) (fun e => hq (.inr e))]; exact hg.plen q
set_option maxRecDepth 100000 in
theorem lenW_nonneg (ws : List Wd) : 0 ≤ lenW ws := sumW_nonneg fun _ _ => by omega
/-- What Merge tells, and leaves. -/
def XMergeRet (lab : Nat → Lab) (K N : Nat) (M : Mdl) (p : Int × Int) (s : Int) (had : Int × Int → Int → Prop) (w : World) (e : Ending) (w' : World) : Prop :=
  ∃ (T : Int) (r : Value) (Y : List (Int × Int)) (lab' : Nat → Lab) (V' : Int × Int → Value) (M' : Mdl), e = .returned (.tuple #[.int .i64 T, r]) ∧ ownE pairE w' w.heap.size r Y ∧ Y.Pairwise pb ∧ (∀ q, q ∈ Y ↔ getC M'.cnt q ≠ getC M.cnt q) ∧ (∀ g, r.ownBlock = some g → lab' g = .no) ∧
    IxM w' lab' K (N + 3000 * (M.pl p).length) V' M' ∧ XRet lab w lab' w' ∧ M'.ws = mergeWs p s M.ws ∧ GoodM M' (s + 1) (fun q z => had q z ∨ ∃ (j : Nat) (X : List Int) (t : Int), z = (j : Int) ∧ (mergeWs p s M.ws)[j]? = some (X, t) ∧ 0 < cntP X q) ∧ M'.pos = M.pos - T ∧ T + lenW M'.ws = lenW M.ws ∧ M'.tou = M.tou + ((M.pl p).length : Int)
/-- The rounds of Merge. -/
def MgRel (w : World) (lab : Nat → Lab) (K N : Nat) (M0 : Mdl) (p q s : Int) (bx : Nat) (u : Value) (tv fv kv : Value) (wr : World) : Prop :=
  ∃ (k : Nat) (T : Int) (F : List Chg) (L : Cn) (M : Mdl) (lab' : Nat → Lab) (V' : Int × Int → Value), tv = .int .i64 T ∧ kv = .int .i64 (k : Int) ∧ k ≤ (M0.pl (p, q)).length ∧ 0 ≤ T ∧ MgInv M0 M (p, q) s k F L T ∧ MgSt w lab K p q bx u wr lab' (N + 3000 * k) V' M fv F
end Go.Proofs.YtnmacalbbmeedaaGreat
