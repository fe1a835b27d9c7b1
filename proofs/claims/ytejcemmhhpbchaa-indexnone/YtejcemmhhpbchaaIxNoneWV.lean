/- IndexNone, walked. -/
import Derived.Test.YtejcemmhhpbchaaGE
import Derived.Test.YtejcemmhhpbchaaPairArg
namespace Go.Proofs.Ytejcemmhhpbchaa
open Go.RowKit Go.Maps

set_option maxRecDepth 100000 in
set_option maxHeartbeats 8000000 in
theorem indexNone_walk (v : Value) (p q : Int) (w : World) (L : Bag) (hv : wordsAt w v L) (hL : L.length ≤ maxLen) (hf : Fits L) (hp : FitsPr (p, q)) :
    Calls Try.prog 3 #[v, .agg #[.int .i64 p, .int .i64 q]] w fun e w' => e = .returned (.bool true) ∧ Below w.heap.size w w' := by
  have HV := Lib.hid hv; have HF := Lib.hid hf; have HP := Lib.hid hp
  have hL2 : L.length ≤ 9223372036854775807 := by unfold maxLen at hL; omega
  have HL2 := Lib.hid hL2
  obtain ⟨bx, hbx⟩ : ∃ bx, w.heap.size = bx := ⟨_, rfl⟩
  obtain ⟨w1, hw1⟩ : ∃ w1, w1 = w.alloc (.cells #[.int .i64 p, .int .i64 q] 24) := ⟨_, rfl⟩
  have HB1 : Hid (Below w.heap.size w w1) := Lib.hid (by rw [hw1]; exact (Below.refl _ w).alloc (Nat.le_refl _) _)
  have HBX : Hid (w.heap.size ≤ bx ∧ w1.heap[bx]? = some (.cells #[.int .i64 p, .int .i64 q] 24 (0, 0))) := Lib.hid ⟨by omega, by rw [hw1, ← hbx]; exact heap_alloc_new w _⟩
  have HC : Hid (∀ W, Below w1.heap.size w1 W → W.cell? ⟨bx, 0, none⟩ = some (.int .i64 p) ∧ W.cell? ⟨bx, 1, none⟩ = some (.int .i64 q)) := Lib.hid fun W hW => by
    have h1 := (hW.block bx (Array.getElem?_eq_some_iff.1 HBX.out.2).1).trans HBX.out.2
    refine ⟨?_, ?_⟩ <;> (rw [cell_of_row W bx _ _ 24 (0, 0) h1]; rfl)
  have HA := Lib.hid (xawake_any w1)
  have hw1' := hw1.symm
  obtain ⟨a, cap, rfl, _⟩ := hv
  clear hw1 hf hp hL hL2
  go_enter Try.func3, Try.ntmps3
  go_wp2_with fail
  clear hw1' hbx
  refine HA.out.mono ?_
  rintro e w2 ⟨rfl, hb2⟩
  have HB2 := Lib.hid hb2
  have HW2 : Hid (Below w.heap.size w w2) := Lib.hid (HB1.out.trans (hb2.mono HB1.out.size))
  have HV2 := Lib.hid (HV.out.below HW2.out (Nat.le_refl _))
  have cG := xgreat_any _ L w2 HV2.out HL2.out
  clear hb2
  go_wp2_with fail
  refine cG.mono ?_
  rintro e w2' ⟨g, rfl, rfl, hg⟩
  clear cG
  cases g with
  | true =>
    go_wp2
    go_ret
    exact ⟨rfl, HW2.out⟩
  | false =>
    obtain ⟨hl60, hb400⟩ := hg rfl
    have HL60 := Lib.hid hl60; have HB400 := Lib.hid hb400
    clear hg hl60 hb400
    obtain ⟨y0, y1⟩ := HC.out w2' HB2.out
    go_wp2_with (first
      | (go_at_call 7; refine (xmerge_nil p q 256 _).mono ?_; rintro e w3 ⟨rfl, hb3⟩; have HB3 := Lib.hid (HB2.out.trans (hb3.mono HB2.out.size)); clear hb3; obtain ⟨z0, z1⟩ := HC.out w3 HB3.out)
      | (go_at_call 8; refine (xcount_nil p q _).mono ?_; rintro e w4 ⟨rfl, hb4⟩; have HB4 := Lib.hid (HB3.out.trans (hb4.mono HB3.out.size)); clear hb4; obtain ⟨x0, x1⟩ := HC.out w4 HB4.out)
      | (go_at_call 9; refine (xpairs_nil _).mono ?_; rintro e w5 ⟨rfl, rfl⟩)
      | (go_at_call 10; refine (xwords_nil p q _).mono ?_; rintro e w6 ⟨rfl, hb6⟩; have HB6 := Lib.hid (HB4.out.trans (hb6.mono HB4.out.size)); clear hb6)
      | (go_at_call 11; refine (xsyms_nil 0 _).mono ?_; rintro e w7 ⟨rfl, rfl⟩)
      | (go_at_call 12; refine (xpos_nil _).mono ?_; rintro e w8 ⟨rfl, rfl⟩)
      | (go_at_call 13; refine (xtou_nil _).mono ?_; rintro e w9 ⟨rfl, rfl⟩))
    have HW6 : Hid (Below w.heap.size w w9) := Lib.hid (HB1.out.trans (HB6.out.mono HB1.out.size))
    have cN := xnew_any _ L w9 (HV.out.below HW6.out (Nat.le_refl _)) HF.out (by have := HL60.out; omega) (by have := HB400.out; omega)
    refine cN.mono ?_
    rintro e w10 ⟨hb10, ⟨hno, rfl⟩ | ⟨h0, K, lab, V, M, rfl, hM, hG, hws, hpos, htou, hlab⟩⟩
    · have HW10 : Hid (Below w.heap.size w w10) := Lib.hid (HW6.out.trans (hb10.mono HW6.out.size))
      obtain ⟨er, her⟩ : ∃ er, (checkOf L).2 = er := ⟨_, rfl⟩
      rw [her] at hno ⊢
      have hne : (er != 0) = true := by simp [hno]
      have hne2 : (er == 0) = false := by simp [hno]
      clear hb10 cN hno her
      go_wp2_with fail
      go_ret
      exact ⟨by first | rfl | simp [hne] | simp [hne2], HW10.out⟩
    · have HO : Hid (XO w lab K 200000 V M w10) := Lib.hid ⟨hM, HW6.out.trans (hb10.mono HW6.out.size), fun i hi => hlab i (by have := HW6.out.size; omega)⟩
      have HBXX : Hid (PBox bx p q lab w10) := Lib.hid (by
        have h1 := HBX.out.2
        have h2 := HB6.out.block bx (Array.getElem?_eq_some_iff.1 h1).1
        have h3 := Nat.lt_of_lt_of_le (Array.getElem?_eq_some_iff.1 h1).1 HB6.out.size
        exact ⟨(hb10.block bx h3).trans (h2.trans h1), hlab bx h3⟩)
      have HG := Lib.hid (hG.up (s' := 9999) (by decide) (by decide)); have HWS := Lib.hid hws; have HPS := Lib.hid hpos; have HTU := Lib.hid htou
      have HRF := Lib.hid (right_facts h0)
      have HLW : Hid (lenW M.ws ≤ 400) := Lib.hid (by rw [hws, ws_bytes]; have := HB400.out; omega)
      have HCN : Hid (M.cnt.length ≤ 400) := Lib.hid (by have := cn_len HG.out.cnt HG.out.pos HG.out.tells; have := HLW.out; omega)
      clear hM hG hws hpos htou hlab hb10 cN h0
      have cP := xpos_any K 200000 lab V M w10 HO.out.ix
      rw [HPS.out] at cP
      have cR := refPositions_any _ L w10 (HV.out.below HO.out.bel (Nat.le_refl _)) HL2.out (by have := HB400.out; omega)
      obtain ⟨bl, hbl⟩ : ∃ bl, bytesOf L = bl := ⟨_, rfl⟩
      rw [hbl] at cP cR
      have cA := xpairs_any K 200000 lab V M w10 HO.out.ix (by have := HCN.out; omega)
      clear hbl
      go_wp2_with (first
        | (go_at_call 12; refine cP.mono ?_; rintro e w11 ⟨rfl, rfl⟩)
        | (go_at_call 15; refine cR.mono ?_; rintro e w12 ⟨rfl, rfl⟩))
      refine cA.mono ?_
      rintro e w13 ⟨r13, rfl, ho13, hb13⟩
      have HO13 := Lib.hid (HO.out.below hb13)
      have HX13 := Lib.hid (HBXX.out.below hb13)
      have HR13 : Hid (ownE pairE w13 w12.heap.size r13 (keysC M.cnt) ∧ ∀ g, r13.ownBlock = some g → lab g = .no) := Lib.hid ⟨ho13, fun g hg => HO.out.ix.fresh (ho13.lt g hg).1⟩
      clear ho13 hb13 cA cP cR
      obtain ⟨c, hc⟩ : ∃ c, getC M.cnt (p, q) = c := ⟨_, rfl⟩
      have HCC := Lib.hid hc
      have cC := xcount_any K 200000 lab V M p q w13 HO13.out.ix HP.out
      rw [hc] at cC
      obtain ⟨y0, y1⟩ := HX13.out.cells
      clear hc
      go_wp2_with fail
      refine cC.mono ?_
      rintro e w14 ⟨rfl, hb14⟩
      have HO14 := Lib.hid (HO13.out.below hb14)
      have HX14 := Lib.hid (HX13.out.below hb14)
      have HR14 : Hid (ownE pairE w14 w12.heap.size r13 (keysC M.cnt) ∧ ∀ g, r13.ownBlock = some g → lab g = .no) := Lib.hid ⟨HR13.out.1.below hb14, HR13.out.2⟩
      clear hb14 cC y0 y1
      obtain ⟨y0, y1⟩ := HX14.out.cells
      have cM := xmerge_any K 200000 lab V M p q 9999 _ w14 HO14.out.ix HG.out HP.out (by decide) (by have := HLW.out; omega) (by rw [HWS.out, ws_len]; have := HL60.out; omega) (by rw [HPS.out]; have := HB400.out; omega) (by rw [HTU.out]; omega) (by decide) (by have := HCN.out; omega)
      by_cases h0 : c = 0
      · subst h0
        go_wp2_with fail
        refine cM.mono ?_
        rintro e w15 ⟨T, r, Y, lab5, V5, M5, rfl, ho5, hY, hiff, hr5, hM5, hx5, hws5, hG5, _, hsum, _⟩
        have hz : ∀ x ∈ M.ws, cntP x.1 (p, q) = 0 := tot_zero HG.out.pos (by rw [← HG.out.tells]; exact HCC.out)
        rw [merge_none hz] at hws5
        have hT : T = 0 := by rw [hws5] at hsum; omega
        have hcn : M5.cnt = M.cnt := cn_ext hG5.cnt HG.out.cnt fun q2 => by rw [hG5.tells, HG.out.tells, hws5]
        have hY0 : Y = [] := List.eq_nil_iff_forall_not_mem.2 fun q2 hq2 => (hiff q2).1 hq2 (by rw [hcn])
        subst hT
        subst hY0
        obtain ⟨ra, rc, rfl⟩ := own_nilE ho5
        have HO15 := Lib.hid (HO14.out.step hM5 hx5)
        have HR15 : Hid (eltsAt pairE w15 r13 (keysC M.cnt)) := Lib.hid (HR14.out.1.kept fun g hg => (hx5.out (HR14.out.1.lt g hg).2 (HR14.out.2 g hg)).2).reads
        have cA := xpairs_any K _ lab5 V5 M5 w15 HO15.out.ix (by rw [hcn]; have := HCN.out; omega)
        rw [hcn] at cA
        clear ho5 hY hiff hr5 hM5 hx5 hws5 hG5 hsum hz hcn cM
        go_wp2_with fail
        refine cA.mono ?_
        rintro e w16 ⟨r16, rfl, ho16, hb16⟩
        have HW16 := Lib.hid (HO15.out.bel.trans (hb16.mono HO15.out.bel.size))
        have cS := xsame_true r16 r13 (keysC M.cnt) w16 ho16.reads (HR15.out.below hb16 (Nat.le_refl _)) (by have := HCN.out; unfold keysC; rw [List.length_map]; omega)
        have HSS := Lib.hid cS
        clear ho16 hb16 cA cS
        go_wp2_with fail
        refine HSS.out.mono ?_
        rintro e w17 ⟨rfl, hb17⟩
        have HW17 := Lib.hid (HW16.out.trans (hb17.mono HW16.out.size))
        clear hb17
        go_wp2
        go_ret
        exact ⟨rfl, HW17.out⟩
      · have hne : (c == 0) = false := by simp [h0]
        have H0 := Lib.hid h0
        clear h0
        go_wp2_with fail
        refine cM.mono ?_
        rintro e w15 ⟨T, r, Y, lab5, V5, M5, rfl, ho5, hY, hiff, hr5, hM5, hx5, hws5, hG5, _, hsum, _⟩
        have hcp : 0 < totW M.ws (p, q) := by
          have h1 := tot_nonneg (ws := M.ws) (fun x hx => (by have := HG.out.pos x hx; omega : 0 ≤ x.2)) (p, q)
          have h2 := HG.out.tells (p, q)
          have h3 := HCC.out; have h4 := H0.out
          omega
        obtain ⟨x, hx, hxc⟩ := (tot_pos HG.out.pos).1 hcp
        have htp := take_pos hx hxc
        have hts := take_sum (p, q) 9999 M.ws
        have hT : 0 < T := by rw [hws5] at hsum; omega
        have hgone : getC M5.cnt (p, q) = 0 := by rw [hG5.tells, hws5]; exact tot_none (merged_gone HG.out.syms)
        have hYp : 0 < Y.length := List.length_pos_of_mem ((hiff (p, q)).2 (by rw [hgone, HCC.out]; exact fun e => H0.out e.symm))
        obtain ⟨ra, rc, rfl, _⟩ := ho5.form
        have HO15 := Lib.hid (HO14.out.step hM5 hx5)
        have HX15 := Lib.hid (HX14.out.step hx5)
        have hTd : decide ((0 : Int) < T) = true := decide_eq_true hT
        have hnd : decide ((0 : Int) < (Y.length : Int)) = true := decide_eq_true (by omega)
        have hnn : (0 : Int) < (Y.length : Int) := by omega
        clear y0 y1
        obtain ⟨y0, y1⟩ := HX15.out.cells
        have cC := xcount_any K _ lab5 V5 M5 p q w15 HO15.out.ix HP.out
        rw [hgone] at cC
        clear ho5 hY hiff hr5 hM5 hx5 hws5 hG5 hsum cM hcp hx hxc htp hts hgone
        go_wp2_with fail
        refine cC.mono ?_
        rintro e w16 ⟨rfl, hb16⟩
        have HW16 := Lib.hid (HO15.out.bel.trans (hb16.mono HO15.out.bel.size))
        clear hb16 cC
        go_wp2
        go_ret
        exact ⟨rfl, HW16.out⟩
end Go.Proofs.Ytejcemmhhpbchaa
