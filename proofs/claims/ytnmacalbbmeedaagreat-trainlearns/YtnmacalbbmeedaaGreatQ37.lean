/- Texts in one: IxMg, IxAdd. -/
import Derived.Test.YtnmacalbbmeedaaGreatQ36
/- Merging in an index, walked. -/
namespace Go.Proofs.YtnmacalbbmeedaaGreat
open Go.RowKit Go.Maps

set_option maxRecDepth 100000 in
theorem cown_none (w : World) : ownE chgE (w.alloc (.cells #[] 167)) w.heap.size (.slice (some ⟨w.heap.size, 0, none⟩) 0 0) [] :=
  ⟨rfl, .inr ⟨w.heap.size, 0, #[], rfl, Nat.le_refl _, heap_alloc_new w _, Nat.le_refl _, by unfold maxLen; omega, rfl, rfl⟩⟩
set_option maxRecDepth 100000 in
set_option maxHeartbeats 8000000 in
theorem xmerge_any (K N : Nat) (lab : Nat → Lab) (V : Int × Int → Value) (M : Mdl) (p q s : Int) (had : Int × Int → Int → Prop) (w : World) (h : IxM w lab K N V M) (hg : GoodM M s had) (hp : FitsPr (p, q)) (hs : s < 1000000) (hlen : lenW M.ws ≤ 1000000) (hws : M.ws.length ≤ 100) (hpos : 0 ≤ M.pos ∧ M.pos ≤ 1000000000000) (htou : 0 ≤ M.tou ∧ M.tou ≤ 1000000000000) (hN : N ≤ 800000000000) (hcl : M.cnt.length ≤ 400000) :
    Calls Tryz.prog 57 #[.pointer (some ⟨K, 0, none⟩), .agg #[.int .i64 p, .int .i64 q], .int .i64 s] w fun e w' => XMergeRet lab K N M (p, q) s had w e w' := by
  have HG := Lib.hid hg; have HP := Lib.hid hp; have HLEN := Lib.hid hlen; have HPOS := Lib.hid hpos; have HTOU := Lib.hid htou; have HCL := Lib.hid hcl; have HS := Lib.hid hs; have HN := Lib.hid hN; have HWS := Lib.hid hws
  obtain ⟨P, hPP⟩ : ∃ P, M.pl (p, q) = P := ⟨_, rfl⟩
  obtain ⟨n, hn⟩ : ∃ n, P.length = n := ⟨_, rfl⟩
  have hnw : n ≤ 100 := by have := hg.plen (p, q); rw [hPP] at this; omega
  have HPP := Lib.hid hPP; have HNN := Lib.hid hn
  obtain ⟨u, hu⟩ : ∃ u, V (p, q) = u := ⟨_, rfl⟩
  obtain ⟨bx, hbx⟩ : ∃ bx, w.heap.size = bx := ⟨_, rfl⟩
  have hlb : lab bx = .no := h.fresh (by omega)
  obtain ⟨w1, hw1⟩ : ∃ w1, w1 = w.alloc (.cells #[.int .i64 p, .int .i64 q] 77) := ⟨_, rfl⟩
  obtain ⟨w2, hw2⟩ : ∃ w2, w2 = (w1.alloc (.cells #[] 167)).drew := ⟨_, rfl⟩
  have hs1 : w1.heap.size = bx + 1 := by rw [hw1, ← hbx]; simp
  have B1 : Below w.heap.size w w1 := by rw [hw1]; exact (Below.refl _ w).alloc (Nat.le_refl _) _
  have B2 : Below w1.heap.size w1 w2 := by rw [hw2]; exact ((Below.refl _ w1).alloc (Nat.le_refl _) _).drew
  have hbox1 : w1.heap[bx]? = some (.cells #[.int .i64 p, .int .i64 q] 77 (0, 0)) := by rw [hw1, ← hbx]; exact heap_alloc_new w _
  have HST : Hid (MgSt w lab K p q bx u w2 lab (N + 3000 * 0) V M (.slice (some ⟨bx + 1, 0, none⟩) 0 0) []) := Lib.hid (by
    refine ⟨((h.below B1).below B2).mono (by omega), XRet.below (B1.trans (B2.mono B1.size)), ?_, fun g hg => ?_, (B2.block bx (by omega)).trans hbox1, hlb, hu⟩
    · have := cown_none w1
      rw [hs1] at this
      rw [hw2]
      exact (this.drewN 1).mono (by omega)
    · cases hg; exact h.fresh (show w.heap.size ≤ bx + 1 by omega))
  have hrow : ownE intE w2 0 u P := by
    obtain ⟨wv, Kc, mc, b, E, hi⟩ := HST.out.ix
    have := hi.rows (p, q)
    rw [hu, hPP] at this
    exact this
  obtain ⟨a, c, rfl, _⟩ := hrow.form
  have HROW := Lib.hid hrow
  have HROW0 : Hid (0 < n → ∃ gu, a = some ⟨gu, 0, none⟩) := Lib.hid fun h0 => by
    obtain ⟨gu, e, _⟩ := ownE_some hrow (by omega)
    exact ⟨gu, e⟩
  obtain ⟨b, c2, hlk⟩ : ∃ b, w2.cell? ⟨K, 2, none⟩ = some (.map (some b)) ∧ (Instr.lookup 99 (.map (some b)) (pv (p, q)) false).run Tryz.prog w2 = .ok (.slice a P.length c) w2 := by
    obtain ⟨wv, Kc, mc, b, E, hi⟩ := HST.out.ix
    have h1 := vlook hi.vmap hp
    rw [hu] at h1
    exact ⟨b, hi.cells.2.2.1, h1⟩
  obtain ⟨d0, d1⟩ := HST.out.bcells
  unfold pv at hlk
  simp only at hlk
  rw [hn] at hlk
  have hMI := MgInv.start (p := (p, q)) hg
  have HMI := Lib.hid hMI
  have hw1' := hw1.symm
  have hw2' := hw2.symm
  have HBX := Lib.hid hbx
  have HIX := Lib.hid h
  rw [hn] at HST HROW
  clear h hg hp hlen hpos htou hcl hs hN hrow hPP hn hbox1 B1 B2 hlb hMI hw1 hw2 hu hws
  go_enter Tryz.func57, Tryz.ntmps57
  go_wp2_with fail
  go_region
  all_goals (go_wp2_with fail)
  clear hw1' hw2' hlk c2 d0 d1 hs1
  go_loopw [8, 9, 25] (fun tv fv kv wr => MgRel w lab K N M p q s bx (.slice a n c) tv fv kv wr) (fun _ _ kv _ => n + 1 - (intOf kv).toNat)
  case atStart => exact ⟨0, 0, [], M.cnt, M, lab, V, rfl, rfl, Nat.zero_le _, Int.le_refl _, HMI.out, HST.out⟩
  case round =>
    obtain ⟨k, T, F, L, M1, lab1, V1, rfl, rfl, hk, hT, hMI, hST⟩ := hrel
    rw [HPP.out, HNN.out] at hk
    have HMI1 := Lib.hid hMI; have HT := Lib.hid hT; have HST1 := Lib.hid hST
    clear hMI hST hT
    by_cases hgo : k < n
    · have hkI : (k : Int) < (n : Int) := by omega
      have hkP : k < (M.pl (p, q)).length := by rw [HPP.out, HNN.out]; exact hgo
      obtain ⟨gu, rfl⟩ := HROW0.out (by omega)
      obtain ⟨j, X, t, hjk, hj, hj0, ht, hX⟩ := HMI1.out.next_word HG.out hkP
      have hnew := HG.out.new (p, q) (fun e => by rw [e] at hkP; simp at hkP)
      have hpl : M1.pl (p, q) = M.pl (p, q) := HMI1.out.old (p, q) (by omega) (by omega)
      have hcell : wr.cell? ⟨gu, k, none⟩ = some (.int .i64 (j : Int)) := by
        have := HST1.out.place (k := k) rfl (by rw [hpl]; exact hkP)
        simp only [hpl, hjk] at this
        exact this
      obtain ⟨gw, c1, kk, gg, Y, v0, hjl, v1, _, hseq, l1, l2, hgw, lgw⟩ := HST1.out.ix.word hj
      have hxf : X.length ≤ 1000 := hseq.fewX
      obtain ⟨b0, b1⟩ := HST1.out.bcells
      have HBX1 : Hid (bx < wr.heap.size ∧ lab1 bx = .no) := Lib.hid ⟨HST1.out.bxlt, HST1.out.bno⟩
      have HK1 : Hid (K < wr.heap.size ∧ lab1 K = .idx) := Lib.hid ⟨HST1.out.ix.ltK, HST1.out.ix.mine⟩
      have HJ := Lib.hid hj; have HJ0 := Lib.hid hj0; have HTT := Lib.hid ht; have HX := Lib.hid hX; have HJK : Hid (∀ h : k < (M.pl (p, q)).length, (M.pl (p, q))[k] = (j : Int)) := Lib.hid fun _ => hjk; have HKP := Lib.hid hkP; have HNEW := Lib.hid hnew; have HXF := Lib.hid hxf
      have HL1 := Lib.hid l1; have HL2 := Lib.hid l2; have HGW : Hid (gw < wr.heap.size ∧ lab1 gw = .words) := Lib.hid ⟨hgw, lgw⟩
      obtain ⟨NW, hNW⟩ : ∃ NW, M1.ws.length = NW := ⟨_, rfl⟩
      rw [hNW] at v0 hjl
      have HNW := Lib.hid hNW
      have HSB := Lib.hid HG.out.sb
      obtain ⟨tm, htm⟩ : ∃ tm : Int, (timesL (p, q) X : Int) = tm := ⟨_, rfl⟩
      have HTM := Lib.hid htm
      have cM := merge_any kk gg X Y p q s wr.drew (hseq.kept rfl rfl) HP.out (by have := HG.out.sb; omega)
      rw [htm] at cM
      have HCM := Lib.hid cM
      have HZ1 : Hid (wr.cell? ⟨K, 0, none⟩ = some (.slice (some ⟨gw, 0, none⟩) NW c1) ∧ wr.cell? ⟨gw, j * 2, none⟩ = some (.pointer (some ⟨kk, 0, none⟩)) ∧ wr.cell? ⟨bx, 0, none⟩ = some (.int .i64 p) ∧ wr.cell? ⟨bx, 1, none⟩ = some (.int .i64 q)) := Lib.hid ⟨v0, v1, b0, b1⟩
      have HZ2 : Hid (wr.drew.cell? ⟨K, 0, none⟩ = some (.slice (some ⟨gw, 0, none⟩) NW c1) ∧ wr.drew.cell? ⟨gw, j * 2, none⟩ = some (.pointer (some ⟨kk, 0, none⟩)) ∧ wr.drew.cell? ⟨bx, 0, none⟩ = some (.int .i64 p) ∧ wr.drew.cell? ⟨bx, 1, none⟩ = some (.int .i64 q)) := Lib.hid ⟨v0, v1, b0, b1⟩
      have hjI : (j : Int) < (NW : Int) := by omega
      clear hj hj0 ht hX hjk hkP hnew hxf l1 l2 hgw lgw hNW htm cM hseq hpl
      go_wp2_with fail
      go_region_held3 (fun w' => w'.cell? ⟨K, 0, none⟩ = some (.slice (some ⟨gw, 0, none⟩) NW c1) ∧ w'.cell? ⟨gw, j * 2, none⟩ = some (.pointer (some ⟨kk, 0, none⟩)) ∧ w'.cell? ⟨bx, 0, none⟩ = some (.int .i64 p) ∧ w'.cell? ⟨bx, 1, none⟩ = some (.int .i64 q)) (first | exact HZ1.out | exact HZ2.out | exact HZ4.out) (first
        | (go_at_call 82
           with_reducible refine HCM.out.mono ?_
           rintro e w4 ⟨v, C, Y', rfl, hs4, ho4, hC4, hl4, hk4⟩
           have HZ4 : Hid (w4.cell? ⟨K, 0, none⟩ = some (.slice (some ⟨gw, 0, none⟩) NW c1) ∧ w4.cell? ⟨gw, j * 2, none⟩ = some (.pointer (some ⟨kk, 0, none⟩)) ∧ w4.cell? ⟨bx, 0, none⟩ = some (.int .i64 p) ∧ w4.cell? ⟨bx, 1, none⟩ = some (.int .i64 q)) := Lib.hid (by
             have hne : ∀ i, i < wr.heap.size → lab1 i ≠ .box j → lab1 i ≠ .row j → w4.heap[i]? = wr.heap[i]? := fun i hi a1 a2 => hk4.block i hi (by
               rintro (rfl | rfl)
               · exact a2 HL2.out
               · exact a1 HL1.out)
             obtain ⟨z1, z2, z3, z4⟩ := HZ1.out
             have hK := hne K HK1.out.1 (by rw [HK1.out.2]; simp) (by rw [HK1.out.2]; simp)
             have hgw := hne gw HGW.out.1 (by rw [HGW.out.2]; simp) (by rw [HGW.out.2]; simp)
             have hbx := hne bx HBX1.out.1 (by rw [HBX1.out.2]; simp) (by rw [HBX1.out.2]; simp)
             exact ⟨(World.cell?_of_block hK).trans z1, (World.cell?_of_block hgw).trans z2, (World.cell?_of_block hbx).trans z3, (World.cell?_of_block hbx).trans z4⟩)
           have HST4 : Hid (MgSt w lab K p q bx (.slice (some ⟨gu, 0, none⟩) n c) w4 lab1 (N + 3000 * k) V1 { M1 with ws := M1.ws.set j (mergeL (p, q) s X, t) } u9 F) := Lib.hid (by
             obtain ⟨z1, z2, _, _⟩ := HZ2.out
             obtain ⟨i1, i2⟩ := HST1.out.drew.ix.merged HJ.out (by rw [HNW.out]; exact z1) z2 HL1.out HL2.out hs4 hk4
             exact HST1.out.drew.step i1 i2 rfl)
           have HC4 := Lib.hid hC4; have HL4 : Hid (C.length ≤ 3000) := Lib.hid (by have := HXF.out; omega); have HO4 : Hid (ownE chgE w4 wr.heap.size v C) := Lib.hid ho4
           have HNO4 : Hid (∀ g, v.ownBlock = some g → lab1 g = .no) := Lib.hid (fun g hg => HST1.out.ix.fresh (HO4.out.lt g hg).1)
           clear hs4 ho4 hC4 hl4 hk4))
      all_goals (
        obtain ⟨hsc, hbel, L', hnext⟩ := HMI1.out.next HG.out HKP.out (HJK.out HKP.out) HJ.out HJ0.out HTT.out HX.out HC4.out HL4.out
        rw [HTM.out] at hnext
        have hTb : 0 ≤ T + tm ∧ T + tm ≤ 1000000 := by
          have h1 := hnext.sum; have h2 := lenW_nonneg (M1.ws.set j (mergeL (p, q) s X, t)); have h3 := HLEN.out; have h4 := HT.out; have h5 := HTM.out
          simp only at h1
          omega
        have hwrT : IntKind.i64.wrap (T + tm) = T + tm := IntWalk.i64_in _ (by omega)
        have HTB := Lib.hid hTb
        have HNX := Lib.hid hnext
        have hlC := HL4.out
        have hjset : (M1.ws.set j (mergeL (p, q) s X, t))[j]? = some (mergeL (p, q) s X, t) := by rw [List.getElem?_set, if_pos rfl, if_pos (List.getElem?_eq_some_iff.1 HJ.out).1]
        have cN := xnote_any K (N + 3000 * k) lab1 V1 { M1 with ws := M1.ws.set j (mergeL (p, q) s X, t) } j (mergeL (p, q) s X) t v C w4 HST4.out.ix hjset (fun W hW => (HO4.out.kept fun g hg => hW.block g (HO4.out.lt g hg).2 fun hm => hm (HNO4.out g hg)).reads) HC4.out.apart
          (fun x hx => ⟨(HC4.out.is hx).1, by
            have a1 := (HC4.out.is hx).2.1
            have a2 := cnt_le X x.1; have a3 := cnt_le (mergeL (p, q) s X) x.1; have a4 := cnt_nonneg X x.1; have a5 := cnt_nonneg (mergeL (p, q) s X) x.1
            have a6 := pmerge_len (p := (p, q)) (s := s) X
            have a7 := HXF.out
            unfold FitsZ
            omega⟩) (fun x hx => (hsc (x.1, x.2 * t) (List.mem_map.2 ⟨x, hx, rfl⟩)).2) hbel (fun q2 => by have := HMI1.out.plen HG.out q2; have := HWS.out; simp only; omega) (by omega) (by have := HN.out; omega)
        have htz : M1.tou = M.tou + (k : Int) := HMI1.out.tou
        obtain ⟨tz, htz2⟩ : ∃ tz, M1.tou = tz := ⟨_, rfl⟩
        have hwrZ : IntKind.i64.wrap (tz + 1) = tz + 1 := IntWalk.i64_in _ (by have := HTOU.out; omega)
        have HTZ := Lib.hid htz2
        clear hsc hbel hnext hTb hlC hjset htz htz2
        go_wp2_with fail
        refine cN.mono ?_
        rintro e w5 ⟨r5, lab5, V5, rfl, ho5, hr5, hV5, hM5, hx5, _⟩
        have HST5 : Hid (MgSt w lab K p q bx (.slice (some ⟨gu, 0, none⟩) n c) w5 lab5 (N + 3000 * k + C.length) V5 { M1 with ws := M1.ws.set j (mergeL (p, q) s X, t), pl := noteF j M1.pl C } u9 F) := Lib.hid (HST4.out.step hM5 hx5 (hV5 (p, q) fun x hx hx0 e => by
          have a1 := (HC4.out.is hx).2.1
          rw [e] at a1
          have := delta_new (p := (p, q)) (s := s) (X := X) (q := (p, q)) (by omega)
          have := HNEW.out
          omega))
        have HO5 := Lib.hid ho5
        clear hr5 hV5 hM5 hx5 cN ho5
        go_wp2_with (at_builtin; refine wpList_append_elts chgE rfl _ _ rfl w.heap.size _ _ F (scaleC t C) rfl rfl HST5.out.own HO5.out.reads HO5.out.nilNone (by have := HMI1.out.lenF; have := HL4.out; rw [scale_len]; omega) HST5.out.ret.size ?_; intro r6 w6 ho6 hg6 hr6; have HST6 := Lib.hid (HST5.out.app ho6 hg6 hr6 HST5.out.bxne); clear ho6 hg6 hr6; obtain ⟨c4, f4⟩ : w6.cell? ⟨K, 4, none⟩ = some (.int .i64 tz) ∧ w6.frozen? ⟨K, 4, none⟩ = false := (by obtain ⟨wv, Kc, mc, b, E, hi⟩ := HST6.out.ix; rw [← HTZ.out]; exact ⟨hi.cells.2.2.2.2.1, hi.cells.2.2.2.2.2 4⟩))
        go_roundw
        case rel =>
          have e1 := HST6.out.ix.numbers (tz + 1)
          have e2 := HST6.out.step (e1.1.1.mono (N' := N + 3000 * (k + 1)) (by have := HL4.out; omega)) e1.1.2 rfl
          refine ⟨k + 1, T + tm, F ++ scaleC t C, L', _, lab5, V5, rfl, by simp, by rw [HPP.out, HNN.out]; omega, HTB.out.1, HNX.out, ?_⟩
          rw [HTZ.out]
          exact e2
        case measure => simp [intOf] <;> omega)
    · have hkI : ¬ (k : Int) < (n : Int) := by omega
      obtain rfl : k = n := by omega
      have hkp : k = (M.pl (p, q)).length := by rw [HPP.out, HNN.out]
      have hMI := HMI1.out
      rw [hkp] at hMI
      have HD := Lib.hid (fun x y => hMI.done HG.out HS.out x y)
      have HW := Lib.hid (hMI.words HG.out)
      have HM := Lib.hid hMI
      clear hMI
      have HKP := Lib.hid hkp
      obtain ⟨pz, hpz⟩ : ∃ pz, M.pos = pz := ⟨_, rfl⟩
      have HPZ := Lib.hid hpz
      have hTb : T ≤ 1000000 := by
        have h1 := HMI1.out.sum; have h2 := lenW_nonneg M1.ws; have h3 := HLEN.out
        omega
      have hwr : IntKind.i64.wrap (pz - T) = pz - T := IntWalk.i64_in _ (by have := HPOS.out; have := HT.out; omega)
      obtain ⟨c3, f3⟩ : wr.cell? ⟨K, 3, none⟩ = some (.int .i64 pz) ∧ wr.frozen? ⟨K, 3, none⟩ = false := by
        obtain ⟨wv, Kc, mc, b, E, hi⟩ := HST1.out.ix
        rw [← HPZ.out, ← HMI1.out.pos]
        exact ⟨hi.cells.2.2.2.1, hi.cells.2.2.2.2.2 3⟩
      obtain ⟨w4, hw4⟩ : ∃ w4, w4 = wr.setCell ⟨K, 3, none⟩ (.int .i64 (pz - T)) := ⟨_, rfl⟩
      have HST4 : Hid (MgSt w lab K p q bx (.slice a k c) w4 lab1 (N + 3000 * k) V1 { M1 with pos := pz - T } u9 F) := Lib.hid (by
        have e1 := HST1.out.ix.numbers (pz - T)
        rw [hw4]
        exact HST1.out.step e1.2.1 e1.2.2 rfl)
      have cA := xadd_any K (N + 3000 * k) lab1 V1 { M1 with pos := pz - T } u9 F L w4 HST4.out.ix (by show GoodC M1.cnt; rw [HMI1.out.cnt]; exact HG.out.cnt) (fun W hW => (HST4.out.own.kept fun g hg => hW.block g (HST4.out.own.lt g hg).2 fun hm => hm (HST4.out.fno g hg)).reads) HMI1.out.fitF (by show runC 1 M1.cnt F = _; rw [HMI1.out.cnt]; exact HMI1.out.run) (by have := HMI1.out.lenF; omega) (by show M1.cnt.length ≤ _; rw [HMI1.out.cnt]; exact HCL.out)
      have hw4' := hw4.symm
      clear hw4 hkp hpz hTb
      go_wp2_with fail
      refine cA.mono ?_
      rintro e w5 ⟨r5, Y, lab5, rfl, ho5, hch, hr5, hM5, hx5, _⟩
      have HST5 := Lib.hid (HST4.out.step hM5 hx5 rfl)
      have HO5 : Hid (ownE pairE w5 w.heap.size r5 Y) := Lib.hid (ho5.mono HST4.out.ret.size)
      have HR5 := Lib.hid hr5
      have HCH := Lib.hid hch
      clear ho5 hch hr5 hM5 hx5 cA hw4' c3 f3
      obtain ⟨b0, b1⟩ := HST5.out.bcells
      have cC := xcount_any K (N + 3000 * k) lab5 V1 _ p q w5 HST5.out.ix HP.out
      have h0 : getC L (p, q) = 0 := (HD.out 0 0).1
      rw [show getC (Mdl.cnt _) (p, q) = getC L (p, q) from rfl, h0] at cC
      clear h0
      go_wp2_with fail
      refine cC.mono ?_
      rintro e w6 ⟨rfl, hb6⟩
      have HST6 := Lib.hid (HST5.out.below hb6)
      obtain ⟨w7, hw7⟩ : ∃ w7, w7 = w6.drew := ⟨_, rfl⟩
      have HST7 : Hid (MgSt w lab K p q bx (.slice a k c) w7 lab5 (N + 3000 * k) V1 { M1 with pos := pz - T, cnt := L } u9 F) := Lib.hid (by rw [hw7]; exact HST6.out.drew)
      have HX57 : Hid (XRet lab5 w5 lab5 w7) := Lib.hid (by rw [hw7]; exact (XRet.below hb6).drew)
      obtain ⟨y0, y1⟩ := HST7.out.bcells
      obtain ⟨b2, w8, y2, hdel, lab8, hM8, hx8⟩ := HST7.out.ix.gone HP.out
      have HM8 := Lib.hid hM8
      have HX58 := Lib.hid (HX57.out.trans hx8)
      have HX8 := Lib.hid (HST7.out.ret.trans hx8)
      unfold pv at hdel
      simp only at hdel
      have hw7' := hw7.symm
      clear hM8 hx8 hb6 hw7 cC b0 b1
      go_wp2_with fail
      go_region
      all_goals (go_wp2_with fail)
      go_ret2
      have e5 := fun g hg => HX58.out.out (HO5.out.lt g hg).2 (HR5.out g hg)
      refine ⟨T, r5, Y, lab8, upd V1 (p, q) nilV, { ws := M1.ws, cnt := L, pl := upd M1.pl (p, q) [], pos := pz - T, tou := M1.tou }, rfl, HO5.out.kept fun g hg => (e5 g hg).2, HCH.out.1, ?_, fun g hg => (e5 g hg).1, by rw [← HKP.out]; exact HM8.out, HX8.out, HW.out, (HD.out _ _).2, by show pz - T = M.pos - T; rw [HPZ.out], HMI1.out.sum, by show M1.tou = _; rw [← HKP.out]; exact HMI1.out.tou⟩
      intro q2
      have h1 := chgset_iff HCH.out (fun q3 hq3 => by
        show getC L q3 = getC M1.cnt q3
        rw [HMI1.out.cnt]
        exact runC_out HG.out.cnt (fun x hx => (HMI1.out.fitF x hx).1) HMI1.out.run hq3) q2
      rw [h1]
      show getC L q2 ≠ getC M1.cnt q2 ↔ getC L q2 ≠ getC M.cnt q2
      rw [HMI1.out.cnt]
end Go.Proofs.YtnmacalbbmeedaaGreat
/- A word added to an index. -/
namespace Go.Proofs.YtnmacalbbmeedaaGreat
open Go.RowKit Go.Maps

set_option maxRecDepth 100000 in
/-- The index's box behind an append to its row of words. -/
theorem add_cell {w w' : World} {lab : Nat → Lab} {K : Nat} {wv : Value} {Kc : Nat} {mc : Option Nat} {b N : Nat} {V : Int × Int → Value} {E : List (Nat × Int)} {M : Mdl} (h : Ix w lab K wv Kc mc b N V E M) (hg : w.grownBy w' wv.ownBlock) : w'.cell? ⟨K, 0, none⟩ = some wv ∧ w'.frozen? ⟨K, 0, none⟩ = false := by
  have hk : w'.heap[K]? = w.heap[K]? := hg.block K h.ltK fun e => by have := h.lw K e.symm; rw [h.lK] at this; cases this
  exact ⟨(World.cell?_of_block hk).trans h.cells.1, Lib.frozen_of_heap (hk.trans h.box) 0⟩
set_option maxRecDepth 100000 in
/-- The index with one word more, its places and counts not told yet. -/
theorem add_state {w w1 w2 w3 w4 : World} {lab : Nat → Lab} {K B kk : Nat} {wv : Value} {Kc : Nat} {mc : Option Nat} {b N : Nat} {V : Int × Int → Value} {E : List (Nat × Int)} {M : Mdl} {X : List Int} {c : Int} {ra : Option Addr} {rc : Nat} (h : Ix w lab K wv Kc mc b N V E M) (hb1 : Below w.heap.size w w1) (hb2 : Below w1.heap.size w1 w2) (hb3 : Below w2.heap.size w2 w3) (hB : w.heap.size = B) (hB1 : w1.heap.size = B + 1)
    (hq : SeqO w2 kk w1.heap.size X []) (hkk : B ≤ kk)  (hl1 : kk < w2.heap.size) (hl2 : w1.heap.size < w2.heap.size) (h3 : Ix w3 lab K wv Kc mc b N V E M) (ho : ownE wordE w4 0 (.slice ra (E.length + 1) rc) (E ++ [(kk, c)])) (hg : w3.grownBy w4 wv.ownBlock) (hr : (Value.slice ra (E.length + 1) rc).ownBlock = wv.ownBlock ∨ (Value.slice ra (E.length + 1) rc).ownBlock = some w3.heap.size) :
    ∃ lab', IxM (w4.setCell ⟨K, 0, none⟩ (.slice ra (E.length + 1) rc)) lab' K N V { M with ws := M.ws ++ [(X, c)] } ∧ XRet lab w lab' (w4.setCell ⟨K, 0, none⟩ (.slice ra (E.length + 1) rc)) ∧ SeqO (w4.setCell ⟨K, 0, none⟩ (.slice ra (E.length + 1) rc)) kk w1.heap.size X [] ∧ (w4.setCell ⟨K, 0, none⟩ (.slice ra (E.length + 1) rc)).cell? ⟨K, 0, none⟩ = some (.slice ra (E.length + 1) rc) := by
  have hK := h.ltK
  have hz2 := hb2.size; have hz3 := hb3.size
  have hwK : some K ≠ wv.ownBlock := fun e => by have := h.lw K e.symm; rw [h.lK] at this; cases this
  have hwlt : ∀ g, wv.ownBlock = some g → g < w.heap.size := fun g hg => (h.row.lt g hg).2
  have hne : ∀ i, w.heap.size ≤ i → some i ≠ wv.ownBlock := fun i hi e => by have := hwlt i e.symm; omega
  have hbox4 : w4.heap[K]? = _ := (hg.block K h3.ltK hwK).trans h3.box
  have hbox5 := heap_setCell_at hbox4 (i := 0) (.slice ra (E.length + 1) rc)
  have hs3 : SeqO w3 kk w1.heap.size X [] := hq.below hb3
  have hs4 : SeqO w4 kk w1.heap.size X [] := hs3.kept (hg.block kk (by omega) (hne kk (by omega))) (hg.block w1.heap.size (by omega) (hne _ (by omega)))
  have hs5 : SeqO (w4.setCell ⟨K, 0, none⟩ (.slice ra (E.length + 1) rc)) kk w1.heap.size X [] := hs4.kept (Below.heap_setCell _ _ _ _ (show kk ≠ K by omega)) (Below.heap_setCell _ _ _ _ (show w1.heap.size ≠ K by omega))
  have hrK : ∀ g, (Value.slice ra (E.length + 1) rc).ownBlock = some g → g ≠ K := fun g hg2 e => by
    subst e
    rcases hr with e | e
    · exact hwK (by rw [← e, hg2])
    · rw [hg2] at e; cases e; omega
  have ho5 : ownE wordE (w4.setCell ⟨K, 0, none⟩ (.slice ra (E.length + 1) rc)) 0 (.slice ra (E.length + 1) rc) (E ++ [(kk, c)]) := ho.kept fun g hg2 => Below.heap_setCell _ _ _ _ (hrK g hg2)
  have hk5 : Kept (fun i => i = K ∨ some i = wv.ownBlock) w (w4.setCell ⟨K, 0, none⟩ (.slice ra (E.length + 1) rc)) := by
    have k3 : Kept (fun i => i = K ∨ some i = wv.ownBlock) w w3 := Kept.of_below ((hb1.trans (hb2.mono hb1.size)).trans (hb3.mono (by omega))) (Nat.le_refl _)
    exact (k3.grown hg fun k e _ => .inr e.symm).setCell _ _ fun _ => .inl rfl
  obtain ⟨lab', h1, h2⟩ := h.wordAt hs5 (by omega) (by omega) hq.apart ho5 (fun i hi => by
    rcases hr with e | e
    · exact .inl (by rw [← e, hi])
    · rw [hi] at e; cases e; exact .inr ⟨by omega, by omega, by omega⟩) hbox5 hk5
  refine ⟨lab', h1, h2, hs5, ?_⟩
  rw [cell_of_row _ K 0 _ 102 (0, 0) hbox5]; rfl
/-- What add leaves. -/
def WordRet (lab : Nat → Lab) (K N : Nat) (M : Mdl) (had : Int × Int → Int → Prop) (X : List Int) (c : Int) (w w' : World) : Prop :=
  ∃ (lab' : Nat → Lab) (V' : Int × Int → Value) (M' : Mdl), IxM w' lab' K (N + 1000) V' M' ∧ XRet lab w lab' w' ∧ GoodM M' 256 (fun q z => had q z ∨ (z = (M.ws.length : Int) ∧ 0 < cntP X q)) ∧ M'.ws = M.ws ++ [(X, c)] ∧ M'.pos = M.pos ∧ M'.tou = M.tou
set_option maxRecDepth 100000 in
set_option maxHeartbeats 8000000 in
theorem xword_any (K N : Nat) (lab : Nat → Lab) (V : Int × Int → Value) (M : Mdl) (had : Int × Int → Int → Prop) (s : ByteArray) (c : Int) (w : World) (h : IxM w lab K N V M) (hg : GoodM M 256 had) (hs : s.size ≤ 1000) (hc : 1 ≤ c) (hw : wtW (M.ws ++ [(syms s, c)]) ≤ 9223372036854775807) (hws : M.ws.length ≤ 1000) (hN : N ≤ 800000000000) (hcl : M.cnt.length ≤ 400000) :
    Calls Tryz.prog 49 #[.pointer (some ⟨K, 0, none⟩), .agg #[.string s, .int .i64 c]] w fun e w' => e = .returned (.tuple #[]) ∧ WordRet lab K N M had (syms s) c w w' := by
  have HG := Lib.hid hg; have HC := Lib.hid hc; have HW := Lib.hid hw; have HWS := Lib.hid hws; have HN := Lib.hid hN; have HCL := Lib.hid hcl; have HSZ := Lib.hid hs
  have H := Lib.hid h
  obtain ⟨wv, Kc, mc, b, E, h⟩ := h
  have HI := Lib.hid h
  obtain ⟨n, hn⟩ : ∃ n, M.ws.length = n := ⟨_, rfl⟩
  have hEl : E.length = n := by rw [h.len, hn]
  have HNN := Lib.hid hn; have HEL := Lib.hid hEl
  rw [hn] at hws
  obtain ⟨w1, hw1⟩ : ∃ w1, w1 = w.alloc (.cells #[.string s, .int .i64 c] 56) := ⟨_, rfl⟩
  obtain ⟨bx, hbx⟩ : ∃ bx, w.heap.size = bx := ⟨_, rfl⟩
  have B1 : Below w.heap.size w w1 := by rw [hw1]; exact (Below.refl _ w).alloc (Nat.le_refl _) _
  have hs1 : w1.heap.size = bx + 1 := by rw [hw1, ← hbx]; simp
  have hbox1 : w1.heap[bx]? = some (.cells #[.string s, .int .i64 c] 56 (0, 0)) := by rw [hw1, ← hbx]; exact heap_alloc_new w _
  have b0 : w1.cell? ⟨bx, 0, none⟩ = some (.string s) := by rw [cell_of_row w1 bx 0 _ 56 (0, 0) hbox1]; rfl
  have b1 : w1.cell? ⟨bx, 1, none⟩ = some (.int .i64 c) := by rw [cell_of_row w1 bx 1 _ 56 (0, 0) hbox1]; rfl
  have HB1 := Lib.hid B1; have HBX1 := Lib.hid hbox1; have HS1 := Lib.hid hs1; have HBX := Lib.hid hbx
  have cQ := qnew_any s w1 hs
  have hw1' := hw1.symm
  clear h hg hc hw hN hcl hs hn hEl B1 hbox1 hw1
  go_enter Tryz.func49, Tryz.ntmps49
  go_wp2_with fail
  refine cQ.mono ?_
  rintro e w2 ⟨kk, rfl, hq, hkk, hb2⟩
  have hs2 : w1.heap.size ≤ w2.heap.size := hb2.size
  have hqk := hq.ltK
  have hqg := hq.ltg
  have hI2 := (HI.out.below HB1.out).below hb2
  have hbox2 := (hb2.block bx (by omega)).trans HBX1.out
  obtain ⟨w3, hw3⟩ : ∃ w3, w3 = (w2.alloc (.cells #[.pointer (some ⟨kk, 0, none⟩), .int .i64 c] 126)).drew := ⟨_, rfl⟩
  have B3 : Below w2.heap.size w2 w3 := by rw [hw3]; exact ((Below.refl _ w2).alloc (Nat.le_refl _) _).drew
  have hI3 := hI2.below B3
  have hbox3 := (B3.block bx (by omega)).trans hbox2
  have hs3 : w3.heap.size = w2.heap.size + 1 := by rw [hw3]; show (w2.alloc _).heap.size = _; simp
  have x0 := hI3.cells.1
  have a0 := hI2.cells.1
  have a1 : w2.cell? ⟨bx, 1, none⟩ = some (.int .i64 c) := by rw [cell_of_row w2 bx 1 _ 56 (0, 0) hbox2]; rfl
  have xf := hI3.cells.2.2.2.2.2 0
  have y1 : w3.cell? ⟨bx, 1, none⟩ = some (.int .i64 c) := by rw [cell_of_row w3 bx 1 _ 56 (0, 0) hbox3]; rfl
  have hone : eltsAt wordE w3 (.slice (some ⟨w2.heap.size, 0, none⟩) 1 1) [(kk, c)] := by rw [hw3]; exact (one_elt wordE w2 (kk, c)).drew 1
  have HONE := Lib.hid hone; have HI3 := Lib.hid hI3; have HQ := Lib.hid hq; have HB2 := Lib.hid hb2; have HB3 := Lib.hid B3; have HS3 := Lib.hid hs3; have HKK := Lib.hid hkk
  have HLT : Hid (kk < w2.heap.size ∧ w1.heap.size < w2.heap.size) := Lib.hid ⟨hqk, hqg⟩
  have hw3' := hw3.symm
  clear cQ hq hkk hb2 hI2 hbox2 B3 hI3 hone hqk hqg hw3 hs3 b0 b1 hs2
  go_wp2_with fail
  go_region_law
    (first | (refine step_append_elts wordE rfl (.tmp 12) (.tmp 17) rfl 0 wv (.slice (some ⟨w2.heap.size, 0, none⟩) 1 1) E [(kk, c)] rfl rfl HI3.out.row HONE.out (someNone _ _ _) (by rw [HEL.out]; simp; omega) (Nat.zero_le _) ?_; intro r w4 ho4 hg4 hr4; obtain ⟨ra, rc, rfl, _⟩ := ho4.form; rw [List.length_append, List.length_singleton] at ho4 hr4; obtain ⟨z0, zf⟩ : w4.cell? ⟨K, 0, none⟩ = some wv ∧ w4.frozen? ⟨K, 0, none⟩ = false := add_cell HI3.out hg4; have HO4 := Lib.hid ho4; have HG4 := Lib.hid hg4; have HR4 := Lib.hid hr4; clear ho4 hg4 hr4))
  all_goals (
    obtain ⟨w5, hw5⟩ : ∃ w5, w5 = w4.setCell ⟨K, 0, none⟩ (.slice ra (E.length + 1) rc) := ⟨_, rfl⟩
    obtain ⟨n1, hn1⟩ : ∃ n1, E.length + 1 = n1 := ⟨_, rfl⟩
    have hst := add_state HI.out (B := bx) HB1.out HB2.out HB3.out (by rw [HBX.out]) (by rw [HS1.out]) HQ.out (by have := HS1.out; have := HKK.out; omega) HLT.out.1 HLT.out.2 HI3.out HO4.out HG4.out HR4.out
    rw [← hw5] at hst ⊢
    obtain ⟨lab5, hM5, hx5, hq5, hc5⟩ := hst
    have HM5 := Lib.hid hM5; have HX5 := Lib.hid hx5; have HQ5 := Lib.hid hq5
    rw [hn1] at hc5
    have hsub : (n1 : Int) - 1 = (n : Int) := by have := HEL.out; omega
    have hwn : IntKind.i64.wrap (n : Int) = (n : Int) := IntWalk.i64_in _ (by omega)
    have HC5 := Lib.hid hc5
    have cP := Lib.hid (pairs_any kk w1.heap.size (syms s) [] w5.drew (HQ5.out.kept rfl rfl))
    clear hM5 hx5 hq5 hw5 z0 zf x0 xf y1 a0 a1 HO4 HG4 HR4
    have HZ1 := Lib.hid hc5
    have HZ2 : Hid (w5.drew.cell? ⟨K, 0, none⟩ = some (.slice ra n1 rc)) := Lib.hid hc5
    have HX0 : Hid (∀ y ∈ syms s, 0 ≤ y ∧ y < 256) := Lib.hid fun y hy => syms_range hy
    go_wp2_with fail
    go_region_held3 (fun w' => w'.cell? ⟨K, 0, none⟩ = some (.slice ra n1 rc)) (first | exact HZ1.out | exact HZ2.out | exact HZ6.out | exact HZ7.out | exact HZ8.out) (first
      | (go_at_call 68
         with_reducible refine cP.out.mono ?_
         rintro e w6 ⟨v, C, rfl, ho6, hC6, hl6, hb6⟩
         have hb6' : Below w5.heap.size w5 w6 := ⟨hb6.os, hb6.tape, hb6.output, hb6.size, hb6.block⟩
         have HM6 := Lib.hid (HM5.out.below hb6')
         have HX6 := Lib.hid (HX5.out.trans (XRet.below hb6'))
         have HZ6 : Hid (w6.cell? ⟨K, 0, none⟩ = some (.slice ra n1 rc)) := Lib.hid ((hb6'.cell HM5.out.ltK).trans HC5.out)
         obtain ⟨L', hrun, hgood⟩ := HG.out.grow HX0.out HC.out HW.out hC6
         have HRUN := Lib.hid hrun; have HGOOD := Lib.hid hgood; have HC6 := Lib.hid hC6
         have HL6 : Hid (C.length ≤ 1000) := Lib.hid (by rw [syms_len] at hl6; have := HSZ.out; omega)
         have HWB : Hid (c * (((syms s).length - 1 : Nat) : Int) ≤ 9223372036854775807) := Lib.hid (by
           have h1 := sumW_mem (g := fun x : Wd => x.2 * ((x.1.length - 1 : Nat) : Int)) (x := (syms s, c)) (ws := M.ws ++ [(syms s, c)]) (fun x hx => mulz (by
             rcases List.mem_append.1 hx with hx | hx
             · have := HG.out.pos x hx; omega
             · rw [List.mem_singleton] at hx; subst hx; have := HC.out; simp only; omega) (by omega)) (by simp)
           have h2 := HW.out
           unfold wtW at h2
           simp only at h1
           omega)
         have HCN := Lib.hid (xnote_any K N lab5 V { M with ws := M.ws ++ [(syms s, c)] } n (syms s) c v C w6 HM6.out (by show (M.ws ++ [(syms s, c)])[n]? = _; rw [← HNN.out]; simp) (fun W hW => (ho6.kept fun g hg => hW.block g (ho6.lt g hg).2 fun hm => hm (HM5.out.fresh (ho6.lt g hg).1)).reads) hC6.apart
           (fun x hx => ⟨(hC6.is hx).1, by
             have a1 := (hC6.is hx).2.1
             have a2 := cnt_le1 (syms s) x.1; have a3 := cnt_nonneg (syms s) x.1
             have a4 := syms_len s; have a5 := HSZ.out
             unfold FitsZ; omega⟩)
           (fun x hx => by
             have a1 := (hC6.is hx).2.1
             have a2 := cnt_le1 (syms s) x.1; have a3 := cnt_nonneg (syms s) x.1
             have a4 := mulz (a := x.2) (b := c) (by omega) (by have := HC.out; omega)
             have a5 := mul_bound (t := c) (by have := HC.out; omega) (show x.2 ≤ (((syms s).length - 1 : Nat) : Int) by omega)
             have a6 := HWB.out
             unfold FitsZ; omega)
           (fun x _ _ y hy => by have := (HG.out.inw x.1 y hy).2; have := HNN.out; omega) (fun q => by have := HG.out.plen q; have := HWS.out; simp only; omega) (by have := HL6.out; omega) (by have := HN.out; omega))
         clear ho6 hC6 hl6 hb6 hb6' hrun hgood)
      | (go_at_call 67
         with_reducible refine HCN.out.mono ?_
         rintro e w7 ⟨r7, lab7, V7, rfl, ho7, hr7, _, hM7, hx7, hKb7⟩
         have HM7 := Lib.hid hM7; have HX7 := Lib.hid (HX6.out.trans hx7)
         have HZ7 : Hid (w7.cell? ⟨K, 0, none⟩ = some (.slice ra n1 rc)) := Lib.hid ((World.cell?_of_block hKb7).trans HZ6.out)
         have HCA := Lib.hid (xadd_any K (N + C.length) lab7 V7 { M with ws := M.ws ++ [(syms s, c)], pl := noteF n M.pl C } r7 (scaleC c C) L' w7 hM7 HG.out.cnt (fun W hW => (ho7.kept fun g hg => hW.block g (ho7.lt g hg).2 fun hm => hm (hr7 g hg)).reads) (fun x hx => by
           obtain ⟨y, hy, rfl⟩ := List.mem_map.1 hx
           have a1 := (HC6.out.is hy).2.1
           have a2 := cnt_le1 (syms s) y.1; have a3 := cnt_nonneg (syms s) y.1
           have a4 := mulz (a := y.2) (b := c) (by omega) (by have := HC.out; omega)
           have a5 := mul_bound (t := c) (by have := HC.out; omega) (show y.2 ≤ (((syms s).length - 1 : Nat) : Int) by omega)
           have a6 := HWB.out
           exact ⟨(HC6.out.is hy).1, by unfold FitsZ; simp only; omega⟩) HRUN.out (by rw [scale_len]; have := HL6.out; omega) HCL.out)
         clear ho7 hr7 hM7 hx7 hKb7)
      | (go_at_call 66
         with_reducible refine HCA.out.mono ?_
         rintro e w8 ⟨r8, Y8, lab8, rfl, _, _, _, hM8, hx8, hKb8⟩
         have HZ8 : Hid (w8.cell? ⟨K, 0, none⟩ = some (.slice ra n1 rc)) := Lib.hid ((World.cell?_of_block hKb8).trans HZ7.out)
         have HM8 := Lib.hid (hM8.mono (N' := N + 1000) (by have := HL6.out; omega)); have HX8 := Lib.hid (HX7.out.trans hx8)
         clear hM8 hx8 hKb8))
    all_goals (go_wp2_with fail)
    all_goals go_end0
    all_goals (
      refine ⟨rfl, lab8, V7, _, HM8.out, HX8.out, ?_, rfl, rfl, rfl⟩
      have := HGOOD.out
      rw [HNN.out] at this ⊢
      exact this))
end Go.Proofs.YtnmacalbbmeedaaGreat
