/- DeltaPlays, walked. -/
import Derived.Test.YthgjpkemgpkknaaHeld
import Derived.Test.YthgjpkemgpkknaaPairArg
namespace Go.Proofs.Ythgjpkemgpkknaa
open Go.RowKit Go.Maps

abbrev At4 (W : World) (a : Addr) (x0 x1 x2 x3 : Int) : Prop := W.cell? a = some (.int .i64 x0) ∧ W.cell? ⟨a.block, a.off + 1, none⟩ = some (.int .i64 x1) ∧ W.cell? ⟨a.block, a.off + 2, none⟩ = some (.int .i64 x2) ∧ W.cell? ⟨a.block, a.off + 3, none⟩ = some (.int .i64 x3)
abbrev At6 (W : World) (a : Addr) (bx : Nat) (x0 x1 x2 x3 p q : Int) : Prop := At4 W a x0 x1 x2 x3 ∧ W.cell? ⟨bx, 0, none⟩ = some (.int .i64 p) ∧ W.cell? ⟨bx, 1, none⟩ = some (.int .i64 q)
abbrev At7 (W : World) (a : Addr) (bx : Nat) (x0 x1 x2 x3 p q : Int) (K2 : Nat) (v : Value) : Prop := At6 W a bx x0 x1 x2 x3 p q ∧ W.cell? ⟨K2, 0, none⟩ = some v
def PlayRel (w2 : World) (K K2 n : Nat) (i : Value) (wr : World) : Prop := ∃ (k : Nat) (M : Cn), i = .int .i64 (k : Int) ∧ k ≤ n ∧ Two w2 K K2 M M wr ∧ M.length ≤ k
theorem RefO.row {w wr : World} {K : Nat} {L : Cn} (h : RefO w K L wr) : ∃ a c, wr.cell? ⟨K, 0, none⟩ = some (.slice a L.length c) ∧ eltsAt pairE wr (.slice a L.length c) (keysC L) := by
  obtain ⟨v, u, h1⟩ := h
  obtain ⟨a, c, rfl, _⟩ := h1.keys.form
  obtain ⟨c0, _, _, _⟩ := rcell h1.cells
  rw [keysC_len] at c0
  have := h1.keys.reads
  rw [keysC_len] at this
  exact ⟨a, c, c0, this⟩
set_option maxRecDepth 100000 in
set_option maxHeartbeats 8000000 in
theorem deltaPlays_walk (v : Value) (p q : Int) (w : World) (L : List DeedI) (hv : eltsAt deedE w v L) (hf : ∀ x ∈ L, FitsDd x) (hp : FitsPr (p, q)) :
    Calls Try.prog 3 #[v, .agg #[.int .i64 p, .int .i64 q]] w fun e w' => e = .returned (.bool true) ∧ Below w.heap.size w w' := by
  have HV := Lib.hid hv
  have HF := Lib.hid hf
  obtain ⟨a, cap, rfl, hc⟩ := hv
  have HC := Lib.hid hc
  clear hc hf
  obtain ⟨N, hN⟩ : ∃ N, L.length = N := ⟨_, rfl⟩
  have HN := Lib.hid hN
  rw [hN] at HV ⊢
  clear hN
  obtain ⟨bx, hbx⟩ : ∃ bx, w.heap.size = bx := ⟨_, rfl⟩
  obtain ⟨w1, hw1⟩ : ∃ w1, w1 = w.alloc (.cells #[.int .i64 p, .int .i64 q] 24) := ⟨_, rfl⟩
  have HB1 : Hid (Below w.heap.size w w1) := Lib.hid (by rw [hw1]; exact (Below.refl _ w).alloc (Nat.le_refl _) _)
  have HX1 : Hid (w1.heap[bx]? = some (.cells #[.int .i64 p, .int .i64 q] 24 (0, 0))) := Lib.hid (by rw [hw1, ← hbx]; exact heap_alloc_new w _)
  have hw' := hw1.symm
  clear hw1
  by_cases hl : 200 < N
  · have hlI : (200 : Int) < (N : Int) := by omega
    go_enter Try.func3, Try.ntmps3
    go_wp2_with fail
    refine (awake_any w1).mono ?_
    rintro e w2 ⟨rfl, h2⟩
    have HB2 : Hid (Below w.heap.size w w2) := Lib.hid (HB1.out.trans (h2.mono HB1.out.size))
    clear h2
    go_wp2
    go_ret
    exact ⟨rfl, HB2.out⟩
  · have hlI : ¬ (200 : Int) < (N : Int) := by omega
    go_enter Try.func3, Try.ntmps3
    go_wp2_with fail
    clear hw' hbx
    refine (awake_any w1).mono ?_
    rintro e w2 ⟨rfl, h2⟩
    have HB2 : Hid (Below w.heap.size w w2) := Lib.hid (HB1.out.trans (h2.mono HB1.out.size))
    have HX2 := Lib.hid (Box24.of_below h2 _ _ _ HX1.out)
    clear h2
    obtain ⟨K, hK⟩ : ∃ K, w2.heap.size = K := ⟨_, rfl⟩
    obtain ⟨w3, hw3⟩ : ∃ w3, w3 = w2.alloc (.cells #[.map none] 52) := ⟨_, rfl⟩
    obtain ⟨K2, hK2⟩ : ∃ K2, w3.heap.size = K2 := ⟨_, rfl⟩
    obtain ⟨w4, hw4⟩ : ∃ w4, w4 = w3.alloc (.cells #[.slice none 0 0, .slice none 0 0] 32) := ⟨_, rfl⟩
    have HT4 : Hid (Two w2 K K2 [] [] w4) := Lib.hid (by
      have h3 : Own1 w2 K [] w3 := by rw [hw3, ← hK]; exact Own1.new (Below.refl _ w2)
      have hs := h3.bel.size
      refine ⟨by rw [hw4]; exact h3.later ((Below.refl _ w3).alloc (Nat.le_refl _) _), by rw [hw4, ← hK2]; exact RefO.new hs, GoodC.nil⟩)
    have cN := new_any w2
    rw [← hw3, hK] at cN
    have hw4' := hw4.symm
    clear hw3 hw4 hK
    go_wp2_with fail
    refine cN.mono ?_
    rintro e w3' ⟨rfl, rfl⟩
    go_wp2_with fail
    clear hw4' hK2 cN
    go_loopw [7] (fun i wr => PlayRel w2 K K2 N i wr) (fun i _ => N + 1 - (intOf i).toNat)
    case atStart => exact ⟨0, [], rfl, Nat.zero_le _, HT4.out, by simp⟩
    case round =>
      obtain ⟨k, M, rfl, hk, hT, hM⟩ := hrel
      have HT := Lib.hid hT
      have HM := Lib.hid hM
      clear hT hM
      by_cases hgo : k < N
      · have hkI : (k : Int) < (N : Int) := by omega
        have hkL : k < L.length := by rw [HN.out]; exact hgo
        obtain ⟨ad, rfl, hadr⟩ := HC.out k hkL
        obtain ⟨x0, x1, x2, x3, hz⟩ : ∃ x0 x1 x2 x3, L[k] = (((x0, x1), x2), x3) := ⟨_, _, _, _, rfl⟩
        have HAT : Hid (∀ W, Below w2.heap.size w2 W → At4 W (ad.add (k * 4)) x0 x1 x2 x3) := Lib.hid (fun W hW => by
          have := deeds_at HV.out (HB2.out.trans (hW.mono HB2.out.size)) hkL
          rw [hz] at this
          exact this)
        have HBX : Hid (∀ W, Below w2.heap.size w2 W → W.cell? ⟨bx, 0, none⟩ = some (.int .i64 p) ∧ W.cell? ⟨bx, 1, none⟩ = some (.int .i64 q)) := Lib.hid (fun W hW => box_cells ((hW.block bx (Array.getElem?_eq_some_iff.1 HX2.out).1).trans HX2.out))
        have hfit : FitsDd (((x0, x1), x2), x3) := by rw [← hz]; exact HF.out _ (List.getElem_mem hkL)
        obtain ⟨⟨fp, fb⟩, ft⟩ := hfit
        simp only at fp fb ft
        have FP := Lib.hid fp; have FB := Lib.hid fb; have FT := Lib.hid ft; have FQ := Lib.hid hp
        obtain ⟨M', er, hadd⟩ : ∃ M' er, addC M (x0, x1) x2 x3 = (M', er) := ⟨_, _, rfl⟩
        have HM' : Hid (M'.length ≤ k + 1) := Lib.hid (by
          have := addC_len HT.out.good.ris (x0, x1) x2 x3
          rw [hadd] at this
          have := HM.out
          simp only at *
          omega)
        have HADD := Lib.hid hadd
        clear hz hadr hkL fp fb ft hadd
        have HSW : Hid (∀ W, Below w2.heap.size w2 W → At6 W (ad.add (k * 4)) bx x0 x1 x2 x3 p q) := Lib.hid (fun W hW => ⟨HAT.out W hW, HBX.out W hW⟩)
        have HTr : Hid (Two w2 K K2 M M wr.drew) := Lib.hid (HT.out.later (Below.refl _ wr).drew)
        have HS0 := Lib.hid (HSW.out wr HT.out.own.bel)
        have HSr := Lib.hid (HSW.out wr.drew HTr.out.own.bel)
        obtain ⟨g1, hg1⟩ : ∃ g1, getC M' (p, q) = g1 := ⟨_, rfl⟩
        obtain ⟨g2, hg2⟩ : ∃ g2, getC M' (x0, x1) = g2 := ⟨_, rfl⟩
        obtain ⟨n1, hn1⟩ : ∃ n1, M'.length = n1 := ⟨_, rfl⟩
        have G1 := Lib.hid hg1; have G2 := Lib.hid hg2; have N1 := Lib.hid hn1
        clear hg1 hg2 hn1
        go_wp2_with fail
        dsimp only [List.append]
        go_region_held3 (fun w' => At6 w' (ad.add (k * 4)) bx x0 x1 x2 x3 p q) (first | with_reducible exact HSf.out | with_reducible exact HSe.out | with_reducible exact HSd.out | with_reducible exact HSc.out | with_reducible exact HSb.out | with_reducible exact HSa.out | with_reducible exact HSr.out | with_reducible exact HS0.out | exact HSr.out) (first
          | (go_at_call 12
             have cL := lenO HTf.out.own
             rw [N1.out] at cL
             refine cL.mono ?_
             rintro e wg ⟨rfl, rfl⟩)
          | (go_at_call 11
             have cG := rgetO (p := x0) (q := x1) HTe.out.ref (by have := HM'.out; omega)
             rw [G2.out] at cG
             refine cG.mono ?_
             rintro e wf ⟨rfl, hf⟩
             have HTf := Lib.hid (HTe.out.later hf)
             have HBf : Hid (Below wb.heap.size wb wf) := Lib.hid (HBe.out.trans (hf.mono HBe.out.size))
             have HSf : Hid (At7 wf (ad.add (k * 4)) bx x0 x1 x2 x3 p q K2 (.slice ra n1 rc)) := Lib.hid ⟨HSW.out wf HTf.out.own.bel, HKC.out wf HBf.out⟩
             clear hf cG)
          | (go_at_call 10
             have cG := getO HTd.out.own FP.out
             rw [G2.out] at cG
             refine cG.mono ?_
             rintro e we ⟨rfl, he⟩
             have HTe := Lib.hid (HTd.out.later he)
             have HBe : Hid (Below wb.heap.size wb we) := Lib.hid (HBd.out.trans (he.mono HBd.out.size))
             have HSe : Hid (At7 we (ad.add (k * 4)) bx x0 x1 x2 x3 p q K2 (.slice ra n1 rc)) := Lib.hid ⟨HSW.out we HTe.out.own.bel, HKC.out we HBe.out⟩
             clear he cG)
          | (go_at_call 11
             have cG := rgetO (p := p) (q := q) HTc.out.ref (by have := HM'.out; omega)
             rw [G1.out] at cG
             refine cG.mono ?_
             rintro e wd ⟨rfl, hd⟩
             have HTd := Lib.hid (HTc.out.later hd)
             have HBd : Hid (Below wb.heap.size wb wd) := Lib.hid (HBc.out.trans (hd.mono HBc.out.size))
             have HSd : Hid (At7 wd (ad.add (k * 4)) bx x0 x1 x2 x3 p q K2 (.slice ra n1 rc)) := Lib.hid ⟨HSW.out wd HTd.out.own.bel, HKC.out wd HBd.out⟩
             clear hd cG)
          | (go_at_call 10
             have cG := getO HTb.out.own FQ.out
             rw [G1.out] at cG
             refine cG.mono ?_
             rintro e wc ⟨rfl, hc⟩
             have HTc := Lib.hid (HTb.out.later hc)
             have HBc : Hid (Below wb.heap.size wb wc) := Lib.hid (HBb.out.trans (hc.mono HBb.out.size))
             have HSc : Hid (At7 wc (ad.add (k * 4)) bx x0 x1 x2 x3 p q K2 (.slice ra n1 rc)) := Lib.hid ⟨HSW.out wc HTc.out.own.bel, HKC.out wc HBc.out⟩
             clear hc cG)
          | (go_at_call 9
             have cR := raddT HTa.out FP.out FB.out FT.out (by have := HM.out; omega)
             rw [HADD.out] at cR
             refine cR.mono ?_
             rintro e wb ⟨rfl, hb⟩
             have HTb := Lib.hid hb
             obtain ⟨ra, rc, r0, _⟩ := HTb.out.ref.row
             rw [N1.out] at r0
             have HKC : Hid (∀ W, Below wb.heap.size wb W → W.cell? ⟨K2, 0, none⟩ = some (.slice ra n1 rc)) := Lib.hid (fun W hW => (hW.cell (by obtain ⟨v2, u2, h2⟩ := HTb.out.ref; exact (h2.lt K2 (.inl rfl)).2)).trans r0)
             have HBb := Lib.hid (Below.refl wb.heap.size wb)
             have HSb : Hid (At7 wb (ad.add (k * 4)) bx x0 x1 x2 x3 p q K2 (.slice ra n1 rc)) := Lib.hid ⟨HSW.out wb HTb.out.own.bel, r0⟩
             have e9 := shut_eq (fun w' => At7 w' (ad.add (k * 4)) bx x0 x1 x2 x3 p q K2 (.slice ra n1 rc)) (fun _ h => h.1) ‹Shut _›
             simp only [e9] at *
             clear hb cR r0)
          | (go_at_call 8
             have cA := addT HTr.out FP.out FB.out FT.out (by have := HM.out; omega)
             rw [HADD.out] at cA
             refine cA.mono ?_
             rintro e wa ⟨rfl, ha⟩
             have HTa := Lib.hid ha
             have HSa := Lib.hid (HSW.out wa HTa.out.own.bel)
             clear ha cA))
        all_goals (go_wp2)
        all_goals go_roundw
        all_goals try (case measure => simp [intOf] <;> omega)
        all_goals exact ⟨k + 1, M', by simp, hgo, HTf.out, HM'.out⟩
      · have hkI : ¬ (k : Int) < (N : Int) := by omega
        obtain ⟨ra, rc, r0, hrow⟩ := HT.out.ref.row
        have HML : Hid (M.length ≤ 1000) := Lib.hid (by have := HM.out; omega)
        obtain ⟨n1, hn1⟩ : ∃ n1, M.length = n1 := ⟨_, rfl⟩
        rw [hn1] at r0 hrow
        have HROW := Lib.hid hrow
        have HSZ : Hid (∀ W, Below wr.heap.size wr W → W.cell? ⟨K2, 0, none⟩ = some (.slice ra n1 rc)) := Lib.hid (fun W hW => (hW.cell (by obtain ⟨v2, u2, h2⟩ := HT.out.ref; exact (h2.lt K2 (.inl rfl)).2)).trans r0)
        have HBD : Hid (Below wr.heap.size wr wr.drew) := Lib.hid (Below.refl _ wr).drew
        have cA := allO (HT.out.own.later HBD.out) (by have := HML.out; omega)
        have HS0 := Lib.hid r0
        have HS1 := Lib.hid (HSZ.out _ HBD.out)
        clear hrow hn1 r0
        go_wp2_with fail
        go_region_held3 (fun w' => w'.cell? ⟨K2, 0, none⟩ = some (.slice ra n1 rc)) (first | exact HS0.out | exact HS1.out | exact HS5.out | exact HS6.out) (first
          | (go_at_call 14
             refine cA.mono ?_
             rintro e w5 ⟨v5, rfl, ho5, hb5⟩
             have HB5 : Hid (Below wr.heap.size wr w5) := Lib.hid (HBD.out.trans hb5)
             have HO5 := Lib.hid ho5.reads
             have HR5 : Hid (eltsAt pairE w5 (.slice ra n1 rc) (keysC M)) := Lib.hid (HROW.out.below HB5.out (Nat.le_refl _))
             have HS5 := Lib.hid (HSZ.out _ HB5.out)
             clear ho5 hb5)
          | (go_at_call 13
             refine (psame_true _ _ (keysC M) w5 HO5.out HR5.out (by rw [keysC_len]; have := HML.out; omega)).mono ?_
             rintro e w6 ⟨rfl, hb6⟩
             have HB6 : Hid (Below wr.heap.size wr w6) := Lib.hid (HB5.out.trans (hb6.mono HB5.out.size))
             have HS6 := Lib.hid (HSZ.out _ HB6.out)
             clear hb6))
        all_goals go_wp2
        all_goals go_ret
        all_goals exact ⟨rfl, HB2.out.trans ((HT.out.own.bel.trans (HB6.out.mono HT.out.own.bel.size)).mono HB2.out.size)⟩
end Go.Proofs.Ythgjpkemgpkknaa
