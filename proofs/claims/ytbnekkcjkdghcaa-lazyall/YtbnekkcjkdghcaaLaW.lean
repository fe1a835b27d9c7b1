/- LazyAll: if each change is put, the best that is live is taken, each once. -/
import Derived.Test.YtbnekkcjkdghcaaLaA
namespace Go.Proofs.Ytbnekkcjkdghcaa
open Go.RowKit Go.Maps Go.Shelf
open Go.Sort (grow grow_empty grow_grow alloc_eq_grow heap_grow_old)

abbrev LaN (w : World) (Bx : List (Nat × Obj)) (K T Kl Nl : Nat) (q : Qm) (L : Cn) (wr : World) : Prop := LaS w Bx Ob.none K T (.slice none 0 0) none [] Kl Nl q L wr
set_option maxRecDepth 100000 in
theorem some_of_elts {α : Type} {R : Elt α} {w : World} {L : List α} {a : Option Addr} {n cap : Nat} (h : eltsAt R w (.slice a n cap) L) (hl : 0 < L.length) : ∃ ad, a = some ad := by
  obtain ⟨a', cap', e, hc⟩ := h
  cases e
  obtain ⟨ad, e, _, _⟩ := hc 0 hl
  exact ⟨ad, e⟩
def LaRel1 (w : World) (K T Kl Nl : Nat) (N : Nat) (i : Value) (wr : World) : Prop :=
  ∃ (k : Nat) (q : Qm) (L : Cn), i = .int .i64 (k : Int) ∧ k ≤ N ∧ LaN w [] K T Kl Nl q L wr ∧ LaQ q L ∧ q.pu ≤ k ∧ L.length ≤ k
abbrev itemO (x : Item) : Obj := .cells #[.int .i64 x.1, .int .i64 x.2.1, .int .i64 x.2.2] 48 (0, 0)
def LaRel2 (w : World) (K T Kl Nl NL : Nat) (m : Nat) (i : Value) (wr : World) : Prop :=
  ∃ (k : Nat) (q : Qm) (L : Cn) (y : Item), i = .int .i64 (k : Int) ∧ L.length + k = m ∧ LaN w [(NL, itemO y)] K T Kl Nl q L wr ∧ LaQ q L ∧ q.pu ≤ 200 ∧ FitsI y ∧ (0 < k → ∀ z ∈ L, betterOf [] y (itemC z) = true)
set_option maxRecDepth 100000 in
set_option maxHeartbeats 8000000 in
theorem lazyAll_walk (x : Value) (w : World) (D : List DeedL) (hx : eltsAt ldeedE w x D) (_ : D.length ≤ maxLen) (hfit : ∀ d ∈ D, FitsDl d) (hnil : nilNone x) (_ : ∀ a n c, x = .slice a n c → n ≤ c) :
    Calls Try.prog 4 #[x] w fun e w' => e = .returned (.bool true) ∧ Below w.heap.size w w' := by
  have HX := Lib.hid hx
  have HFIT := Lib.hid hfit
  obtain ⟨a, cap, rfl, _⟩ := id hx
  obtain ⟨N, hN⟩ : ∃ N, D.length = N := ⟨_, rfl⟩
  have HN := Lib.hid hN
  rw [hN] at HX ⊢
  have cA := awake_any w
  clear hx hfit hnil hN
  go_enter Try.func4, Try.ntmps4
  go_wp2_with fail
  refine cA.mono ?_
  rintro e w1 ⟨rfl, hb1⟩
  have HB1 := Lib.hid hb1
  clear hb1 cA
  by_cases h200 : (200 : Int) < (N : Int)
  · go_wp2
    go_ret
    exact ⟨rfl, HB1.out⟩
  · have hN2 : N ≤ 200 := by omega
    obtain ⟨w2, hw2⟩ : ∃ w2, w1.alloc (.cells #[.slice none 0 0, .map none] 70) = w2 := ⟨_, rfl⟩
    have cS := snew_any w1
    rw [hw2] at cS
    have hst : Stab w2 w1.heap.size (.slice none 0 0) none [] := by rw [← hw2]; exact new_stab w1
    have cN := znew_any _ _ _ _ w2 hst (by simp)
    have HB2 : Hid (Below w.heap.size w w2) := Lib.hid (HB1.out.trans ((by rw [← hw2]; exact (Below.refl _ w1).alloc (Nat.le_refl _) _ : Below w1.heap.size w1 w2).mono HB1.out.size))
    clear hst hw2
    go_wp2_with fail
    refine cS.mono ?_
    rintro e w9 ⟨rfl, rfl⟩
    go_wp2_with fail
    refine cN.mono ?_
    rintro e w3 ⟨K, S, rfl, hz, hb3, hS⟩
    have hst := la_start (w := w) (X := Ob.none) (Sx := fun _ => False) hz (fun k hk => by
      rcases hS k hk with h | h | h | h
      · exact Nat.le_trans HB2.out.size h
      · rw [h]; exact HB1.out.size
      · simp [Value.ownBlock] at h
      · cases h) (fun k hk => hk) (fun k hk => hk.elim) (fun k _ hk => hk) (HB2.out.trans (hb3.mono HB2.out.size))
    obtain ⟨Kl, hKl⟩ : ∃ Kl, w3.heap.size = Kl := ⟨_, rfl⟩
    rw [hKl] at hst
    obtain ⟨w4, hw4⟩ : ∃ w4, w3.alloc (.cells #[.slice none 0 0, .slice none 0 0] 34) = w4 := ⟨_, rfl⟩
    rw [hw4] at hst
    have z4 : w4.heap.size = Kl + 1 := by rw [← hw4, World.size_alloc, hKl]
    obtain ⟨w5, hw5⟩ : ∃ w5, w4.alloc (.cells #[.pointer (some ⟨Kl, 0, none⟩)] 39) = w5 := ⟨_, rfl⟩
    rw [hw5] at hst
    have HST : Hid (LaRel1 w K w1.heap.size Kl (Kl + 1) N (.int .i64 ((0 : Nat) : Int)) w5) := Lib.hid ⟨0, newQ, [], rfl, Nat.zero_le _, hst, laq_new, by simp [newQ], by simp⟩
    clear cS cN hz hb3 hS hst
    go_wp2_with fail
    go_loopw [6] (fun i wr => LaRel1 w K w1.heap.size Kl (Kl + 1) N i wr) (fun i _ => N - (intOf i).toNat)
    case atStart => exact HST.out
    case round =>
      clear HST hw4 hw5 z4 hKl
      obtain ⟨k, q, L, rfl, hkN, hla, hlq, hpu, hll⟩ := hrel
      have HLA := Lib.hid hla; have HLQ := Lib.hid hlq
      by_cases hgo : k < N
      · have hgoI : (k : Int) < (N : Int) := by omega
        have hk0 : (0 : Int) ≤ (k : Int) := by omega
        have hkD : k < D.length := by rw [HN.out]; exact hgo
        obtain ⟨ad, rfl⟩ := some_of_elts HX.out (by rw [HN.out]; omega)
        obtain ⟨c0, c1, c2, c3⟩ := ldeeds_at HX.out hla.bel hkD
        obtain ⟨f0, f1, f2⟩ := HFIT.out D[k] (List.getElem_mem _)
        obtain ⟨⟨kd, ⟨pa, pb⟩, d⟩, hd⟩ : ∃ y, D[k] = y := ⟨_, rfl⟩
        rw [hd] at c0 c1 c2 c3 f0 f1 f2
        simp only at c0 c1 c2 c3 f0 f1 f2
        obtain ⟨M, hM⟩ : ∃ M, wr.heap.size = M := ⟨_, rfl⟩
        obtain ⟨ws, hws⟩ : ∃ ws, wr.alloc (.cells #[.int .i64 pa, .int .i64 pb] 41) = ws := ⟨_, rfl⟩
        have hls := hla.box #[.int .i64 pa, .int .i64 pb] 41
        rw [hM, hws] at hls
        have HBE : Hid (Below w.heap.size w ws) := Lib.hid hls.bel
        have HBX : Hid (∀ W q L, LaN w [(M, .cells #[.int .i64 pa, .int .i64 pb] 41 (0, 0))] K w1.heap.size Kl (Kl + 1) q L W → W.cell? ⟨Kl + 1, 0, none⟩ = some (.pointer (some ⟨Kl, 0, none⟩)) ∧ W.cell? ⟨M, 0, none⟩ = some (.int .i64 pa) ∧ W.cell? ⟨M, 1, none⟩ = some (.int .i64 pb)) := Lib.hid fun W q L h => by
          have h1 := h.at List.mem_cons_self
          exact ⟨h.live, by rw [cell_of_row W M _ _ 41 (0, 0) h1]; rfl, by rw [cell_of_row W M _ _ 41 (0, 0) h1]; rfl⟩
        obtain ⟨b0, b1, b2⟩ := HBX.out _ _ _ hls
        obtain ⟨_, _, _, c3s⟩ := ldeeds_at HX.out hls.bel hkD
        rw [hd] at c3s
        simp only at c3s
        have HLS := Lib.hid hls
        clear hls hla
        by_cases r1 : pa < 0
        · go_wp2
          go_ret
          exact ⟨rfl, HBE.out⟩
        · by_cases r2 : 255 < pa
          · go_wp2
            go_ret
            exact ⟨rfl, HBE.out⟩
          · by_cases r3 : pb < 0
            · go_wp2
              go_ret
              exact ⟨rfl, HBE.out⟩
            · by_cases r4 : 255 < pb
              · go_wp2
                go_ret
                exact ⟨rfl, HBE.out⟩
              · obtain ⟨n, hn⟩ : ∃ n, max d 0 = n := ⟨_, rfl⟩
                have hn0 : 0 ≤ n := by omega
                have hn1 : FitsN n := ⟨by omega, by have := f2.2; omega⟩
                have hfp : FitsPr (pa, pb) := f1
                obtain ⟨hgd, hLl⟩ := HLS.out.good
                obtain ⟨g0, g1⟩ := hgd.get (pa, pb)
                have hneg : IntKind.i64.wrap (-(getC L (pa, pb))) = -(getC L (pa, pb)) := IntWalk.i64_in _ (by omega)
                have HGE : Hid (∀ W, LaN w [(M, .cells #[.int .i64 pa, .int .i64 pb] 41 (0, 0))] K w1.heap.size Kl (Kl + 1) q L W → Calls Try.prog 13 #[.pointer (some ⟨Kl, 0, none⟩), .agg #[.int .i64 pa, .int .i64 pb]] W fun e w' => e = .returned (.int .i64 (getC L (pa, pb))) ∧ LaN w [(M, .cells #[.int .i64 pa, .int .i64 pb] 41 (0, 0))] K w1.heap.size Kl (Kl + 1) q L w') := Lib.hid fun W h => (la_get h pa pb).mono fun e w' he => ⟨he.1, h.grown he.2⟩
                have HAD : Hid (∀ W, LaN w [(M, .cells #[.int .i64 pa, .int .i64 pb] 41 (0, 0))] K w1.heap.size Kl (Kl + 1) q L W → Calls Try.prog 12 #[.pointer (some ⟨Kl, 0, none⟩), .agg #[.int .i64 pa, .int .i64 pb], .int .i64 (-(getC L (pa, pb))), .int .i64 1] W fun e w' => e = .returned (.int .i64 0) ∧ LaN w [(M, .cells #[.int .i64 pa, .int .i64 pb] 41 (0, 0))] K w1.heap.size Kl (Kl + 1) q (delC L (pa, pb)) w') := Lib.hid fun W h => by
                  have hdl := del_len_le L (pa, pb)
                  have c := la_add h pa pb (-(getC L (pa, pb))) 1 hfp ⟨by omega, by omega⟩ ⟨by omega, by omega⟩ (by rw [add_forget hgd]; simp only; omega)
                  rw [add_forget hgd] at c
                  exact c
                have HGD := Lib.hid hgd
                clear hgd
                go_wp2_with fail
                go_region_held3 (fun w' => w'.cell? ⟨Kl + 1, 0, none⟩ = some (.pointer (some ⟨Kl, 0, none⟩)) ∧ w'.cell? ⟨M, 0, none⟩ = some (.int .i64 pa) ∧ w'.cell? ⟨M, 1, none⟩ = some (.int .i64 pb))
                  (first | with_reducible exact HBX.out _ _ _ HLS.out.drew | with_reducible exact HBX.out _ _ _ HLS.out | with_reducible exact HBX.out _ _ _ hl5 | with_reducible exact HBX.out _ _ _ hl5.drew | with_reducible exact HBX.out _ _ _ hl4 | with_reducible exact HBX.out _ _ _ hl4.drew)
                  (first
                    | (go_at_call 13
                       refine (HGE.out _ (by first | exact HLS.out | exact HLS.out.drew)).mono ?_
                       rintro e w4 ⟨rfl, hl4⟩)
                    | (go_at_call 12
                       refine (HAD.out _ (by first | exact hl4 | exact hl4.drew)).mono ?_
                       rintro e w5 ⟨rfl, hl5⟩))
                all_goals (
                  obtain ⟨x0, x1, x2⟩ := HBX.out _ _ _ hl5
                  have hdl := del_len_le L (pa, pb)
                  have hgz := get_delC HGD.out.ris (pa, pb)
                  have hsl := set_len (ris_del HGD.out.ris (pa, pb)) (pa, pb) n
                  have cB := la_add hl5 pa pb n 1 hfp ⟨by omega, hn1.2⟩ ⟨by omega, by omega⟩ (by rw [add_fresh hgz hn0 hn1.2]; simp only; omega)
                  rw [add_fresh hgz hn0 hn1.2, set_delC HGD.out.ris] at cB
                  clear hl4 hl5 hgz hsl
                  go_wp2_with fail
                  refine cB.mono ?_
                  rintro e w6 ⟨rfl, hl6⟩
                  obtain ⟨y0, y1, y2⟩ := HBX.out _ _ _ hl6
                  have cC := la_put hl6 (pa, pb) n hfp (there_byte (by simp only; omega) (by simp only; omega)) (there_byte (by simp only; omega) (by simp only; omega)) hn1 (by omega)
                  clear cB hl6
                  go_wp2_with fail
                  refine cC.mono ?_
                  rintro e w7 ⟨rfl, hl7⟩
                  have HL7 := Lib.hid hl7
                  clear hl7 cC
                  go_wp2
                  go_roundw
                  case rel =>
                    refine ⟨k + 1, _, _, by simp, hgo, HL7.out.tail, laq_put HLQ.out (pa, pb) hn0, ?_, ?_⟩
                    · have := putQ_pu q (pa, pb) n
                      omega
                    · have := set_len HGD.out.ris (pa, pb) n
                      omega
                  case measure => simp [intOf]; omega)
      · have hgoI : ¬ (k : Int) < (N : Int) := by omega
        obtain ⟨vv, vc, hcnt⟩ := hla.count
        obtain ⟨m, hm⟩ : ∃ m, L.length = m := ⟨_, rfl⟩
        rw [hm] at hcnt
        have l0 := hla.live
        have hm2 : m ≤ 200 := by omega
        obtain ⟨NL, hNL⟩ : ∃ NL, wr.heap.size = NL := ⟨_, rfl⟩
        have hls := hla.box #[.int .i64 0, .int .i64 0, .int .i64 0] 48
        rw [hNL] at hls
        have HST2 : Hid (LaRel2 w K w1.heap.size Kl (Kl + 1) NL m (.int .i64 ((0 : Nat) : Int)) (wr.alloc (.cells #[.int .i64 0, .int .i64 0, .int .i64 0] 48))) := Lib.hid ⟨0, q, L, (0, 0, 0), rfl, by omega, hls, hlq, by omega, by unfold FitsI FitsN; simp, fun h => by omega⟩
        clear hla hlq hls HLA HLQ
        go_wp2_with fail
        go_loopw [11] (fun i wr => LaRel2 w K w1.heap.size Kl (Kl + 1) NL m i wr) (fun i _ => m - (intOf i).toNat)
        case atStart => exact HST2.out
        case round =>
          clear HST2 hcnt l0
          obtain ⟨k2, q2, L2, y, rfl, hlm, hla, hlq, hpu2, hfy, hbt⟩ := hrel
          obtain ⟨ya, yb, yc⟩ := y
          have HPU2 := Lib.hid hpu2
          have hmixed : Try.prog.follows .mixedOrders = true := by kernel_rfl
          by_cases hgo2 : k2 < m
          · have hgoI2 : (k2 : Int) < (m : Int) := by omega
            have hne : L2 ≠ [] := fun e => by rw [e] at hlm; simp at hlm; omega
            have cP := la_pop (fun v u => live_LazyAll_1 Kl (Kl + 1) v u L2) hla (by omega)
            have HLA2 := Lib.hid hla; have HLQ0 := Lib.hid hlq; have HBT := Lib.hid hbt; have HFY := Lib.hid hfy
            have HGD := Lib.hid hla.good.1
            have hL2few := hla.good.2
            clear hla hlq hbt hfy
            go_wp2_with fail
            refine cP.mono ?_
            rintro e w6 ⟨o, l, n, hpo, rfl, hl6⟩
            obtain ⟨x, rfl, fx, hgx, hx1, hlq', ⟨z, hz, hxz⟩, hbx, hlen⟩ := laq_pop HLQ0.out HLA2.out.sane hpo hne
            obtain ⟨xa, xb, xc⟩ := x
            have hfp : FitsPr (xa, xb) := ⟨fx.1, fx.2.1⟩
            have hcf := fx.2.2
            unfold pairI at hgx hlq' hbx hlen
            simp only at hgx hx1 hlq' hbx hlen hcf
            have hcf1 : xc ≤ 9223372036854775807 := hcf.2
            obtain ⟨M, hM⟩ : ∃ M, w6.heap.size = M := ⟨_, rfl⟩
            obtain ⟨wb, hwb⟩ : ∃ wb, w6.alloc (.cells #[.int .i64 xa, .int .i64 xb, .int .i64 xc] 48) = wb := ⟨_, rfl⟩
            have hlb := hl6.box #[.int .i64 xa, .int .i64 xb, .int .i64 xc] 48
            rw [hM, hwb] at hlb
            have hbM0 := hlb.at (List.mem_cons_self)
            have hbN0 := hlb.at (List.mem_cons_of_mem _ List.mem_cons_self)
            have l0 := hlb.live
            have l1 := cell_grown_at l0
            have c0 : wb.cell? ⟨M, 0, none⟩ = some (.int .i64 xa) := by rw [cell_of_row wb M _ _ 48 (0, 0) hbM0]; rfl
            have c1 : wb.cell? ⟨M, 1, none⟩ = some (.int .i64 xb) := by rw [cell_of_row wb M _ _ 48 (0, 0) hbM0]; rfl
            have c2 : wb.cell? ⟨M, 2, none⟩ = some (.int .i64 xc) := by rw [cell_of_row wb M _ _ 48 (0, 0) hbM0]; rfl
            have cg0 := cell_grown_at c0
            have cg1 := cell_grown_at c1
            have cg2 := cell_grown_at c2
            have d0 : wb.cell? ⟨NL, 0, none⟩ = some (.int .i64 ya) := by rw [cell_of_row wb NL _ _ 48 (0, 0) hbN0]; rfl
            have d1 : wb.cell? ⟨NL, 1, none⟩ = some (.int .i64 yb) := by rw [cell_of_row wb NL _ _ 48 (0, 0) hbN0]; rfl
            have d2 : wb.cell? ⟨NL, 2, none⟩ = some (.int .i64 yc) := by rw [cell_of_row wb NL _ _ 48 (0, 0) hbN0]; rfl
            have dg0 := cell_grown_at d0
            have dg1 := cell_grown_at d1
            have dg2 := cell_grown_at d2
            have HGQ : Hid (∀ n os, Calls Try.prog 13 #[.pointer (some ⟨Kl, 0, none⟩), .agg #[.int .i64 xa, .int .i64 xb]] (grow (wb.drewN n) os) fun e w' => e = .returned (.int .i64 xc) ∧ ∃ q os', w' = grow ((grow (wb.drewN n) os).drewN q) os') := Lib.hid fun n os => by
              have h1 := la_get (hlb.grown (Grown.of wb n os)) xa xb
              rw [hgx] at h1
              exact h1
            have HBQ : Hid (∀ n os, Calls Try.prog 21 #[.pointer (some ⟨w1.heap.size, 0, none⟩), .agg #[.int .i64 ya, .int .i64 yb, .int .i64 yc], .agg #[.int .i64 xa, .int .i64 xb, .int .i64 xc]] (grow (wb.drewN n) os) fun e w' => e = .returned (.bool (betterOf [] (ya, yb, yc) (xa, xb, xc))) ∧ ∃ q os', w' = grow ((grow (wb.drewN n) os).drewN q) os') := Lib.hid fun n os =>
              la_better (hlb.grown (Grown.of wb n os)) (ya, yb, yc) (xa, xb, xc) HFY.out fx
            have HLB := Lib.hid hlb; have HLQ2 := Lib.hid hlq'; have HBX2 := Lib.hid hbx; have HLN := Lib.hid hlen; have HFX := Lib.hid fx
            have hbet : 0 < k2 → betterOf [] (ya, yb, yc) (xa, xb, xc) = true := fun h => by rw [hxz]; exact HBT.out h z hz
            have HHG := Lib.hid hgx
            have hne1 : ((xc : Int) != xc) = false := by simp
            have hx2 : ¬ xc < 1 := by omega
            clear hlb hl6 cP hpo hbM0 hbN0 hlq' hbx hlen fx hz hxz
            unfold popV itemV
            simp only
            by_cases hk20 : 0 < k2
            · have hbb := hbet hk20
              rw [hbb] at HBQ
              have hk2I : (0 : Int) < (k2 : Int) := by omega
              have hk2N : decide (0 < k2) = true := decide_eq_true hk20
              clear hbet hbb
              go_wp2_with fail
              refine wp_region_quiet_grown (by assumption) (by kernel_rfl) ?_
              repeat (first | go_big_quiet_skip | quiet_step (first | (go_at_call 13; refine Calls.grown_of (HGQ.out _ _)) | (go_at_call 21; refine Calls.grown_of (HBQ.out _ _))))
              refine wpQuiet_nil ?_
              intro _ hw'
              obtain ⟨⟨nq, osq⟩, hw''⟩ := hw'
              subst hw''
              dsimp only
              obtain ⟨wq, hwq⟩ : ∃ wq, grow (wb.drewN nq) osq = wq := ⟨_, rfl⟩
              rw [hwq]
              have hlw := HLB.out.grown (show Grown wb wq by rw [← hwq]; exact Grown.of wb nq osq)
              have hbM := hlw.at (List.mem_cons_self)
              have l2 := hlw.live
              have u0 : wq.cell? ⟨M, 0, none⟩ = some (.int .i64 xa) := by rw [cell_of_row wq M _ _ 48 (0, 0) hbM]; rfl
              have u1 : wq.cell? ⟨M, 1, none⟩ = some (.int .i64 xb) := by rw [cell_of_row wq M _ _ 48 (0, 0) hbM]; rfl
              have u2 : wq.cell? ⟨M, 2, none⟩ = some (.int .i64 xc) := by rw [cell_of_row wq M _ _ 48 (0, 0) hbM]; rfl
              have hfg : addC L2 (xa, xb) (-xc) 1 = (delC L2 (xa, xb), 0) := by rw [← HHG.out]; exact add_forget HGD.out _
              have hneg : IntKind.i64.wrap (-xc) = -xc := IntWalk.i64_in _ (by omega)
              have cD := la_add hlw xa xb (-xc) 1 hfp ⟨by omega, by omega⟩ ⟨by omega, by omega⟩ (by rw [hfg]; have := del_len_le L2 (xa, xb); simp only; omega)
              rw [hfg] at cD
              clear hlw hbM hwq hfg
              go_wp2_with fail
              refine cD.mono ?_
              rintro e w7 ⟨rfl, hl7⟩
              have hbM7 := hl7.at (List.mem_cons_self)
              have hbN7 := hl7.at (List.mem_cons_of_mem _ List.mem_cons_self)
              have p0 : w7.cell? ⟨M, 0, none⟩ = some (.int .i64 xa) := by rw [cell_of_row w7 M _ _ 48 (0, 0) hbM7]; rfl
              have p1 : w7.cell? ⟨M, 1, none⟩ = some (.int .i64 xb) := by rw [cell_of_row w7 M _ _ 48 (0, 0) hbM7]; rfl
              have p2 : w7.cell? ⟨M, 2, none⟩ = some (.int .i64 xc) := by rw [cell_of_row w7 M _ _ 48 (0, 0) hbM7]; rfl
              have s0 : w7.cell? ⟨NL, 0, none⟩ = some (.int .i64 ya) := by rw [cell_of_row w7 NL _ _ 48 (0, 0) hbN7]; rfl
              have t0 : w7.frozen? ⟨NL, 0, none⟩ = false := Lib.frozen_of_heap hbN7 _
              have s1 : w7.cell? ⟨NL, 1, none⟩ = some (.int .i64 yb) := by rw [cell_of_row w7 NL _ _ 48 (0, 0) hbN7]; rfl
              have t1 : w7.frozen? ⟨NL, 1, none⟩ = false := Lib.frozen_of_heap hbN7 _
              have s2 : w7.cell? ⟨NL, 2, none⟩ = some (.int .i64 yc) := by rw [cell_of_row w7 NL _ _ 48 (0, 0) hbN7]; rfl
              have t2 : w7.frozen? ⟨NL, 2, none⟩ = false := Lib.frozen_of_heap hbN7 _
              have hs1 := hl7.set (By := []) (i := 0) (.int .i64 xa) (List.mem_cons_of_mem _ List.mem_cons_self) (fun b hb => by simp at hb)
              have hs2 := hs1.set (By := []) (i := 1) (.int .i64 xb) List.mem_cons_self (fun b hb => by simp at hb)
              have hs3 := hs2.set (By := []) (i := 2) (.int .i64 xc) List.mem_cons_self (fun b hb => by simp at hb)
              have HS3 := Lib.hid hs3
              clear cD hl7 hbM7 hbN7 hs1 hs2 hs3
              go_wp2
              go_roundw
              case rel => exact ⟨k2 + 1, popQ q2 (.some (xa, xb, xc)) l n, delC L2 (xa, xb), (xa, xb, xc), by simp, by have := HLN.out; omega, HS3.out, HLQ2.out, by rw [popQ_pu]; exact HPU2.out, HFX.out, fun _ => HBX2.out⟩
              case measure => simp [intOf]; omega
            · have hk2I : ¬ (0 : Int) < (k2 : Int) := by omega
              have hk2N : decide (0 < k2) = false := decide_eq_false hk20
              clear hbet
              go_wp2_with fail
              refine wp_region_quiet_grown (by assumption) (by kernel_rfl) ?_
              repeat (first | go_big_quiet_skip | quiet_step (first | (go_at_call 13; refine Calls.grown_of (HGQ.out _ _)) | (go_at_call 21; refine Calls.grown_of (HBQ.out _ _))))
              refine wpQuiet_nil ?_
              intro _ hw'
              obtain ⟨⟨nq, osq⟩, hw''⟩ := hw'
              subst hw''
              dsimp only
              obtain ⟨wq, hwq⟩ : ∃ wq, grow (wb.drewN nq) osq = wq := ⟨_, rfl⟩
              rw [hwq]
              have hlw := HLB.out.grown (show Grown wb wq by rw [← hwq]; exact Grown.of wb nq osq)
              have hbM := hlw.at (List.mem_cons_self)
              have l2 := hlw.live
              have u0 : wq.cell? ⟨M, 0, none⟩ = some (.int .i64 xa) := by rw [cell_of_row wq M _ _ 48 (0, 0) hbM]; rfl
              have u1 : wq.cell? ⟨M, 1, none⟩ = some (.int .i64 xb) := by rw [cell_of_row wq M _ _ 48 (0, 0) hbM]; rfl
              have u2 : wq.cell? ⟨M, 2, none⟩ = some (.int .i64 xc) := by rw [cell_of_row wq M _ _ 48 (0, 0) hbM]; rfl
              have hfg : addC L2 (xa, xb) (-xc) 1 = (delC L2 (xa, xb), 0) := by rw [← HHG.out]; exact add_forget HGD.out _
              have hneg : IntKind.i64.wrap (-xc) = -xc := IntWalk.i64_in _ (by omega)
              have cD := la_add hlw xa xb (-xc) 1 hfp ⟨by omega, by omega⟩ ⟨by omega, by omega⟩ (by rw [hfg]; have := del_len_le L2 (xa, xb); simp only; omega)
              rw [hfg] at cD
              clear hlw hbM hwq hfg
              go_wp2_with fail
              refine cD.mono ?_
              rintro e w7 ⟨rfl, hl7⟩
              have hbM7 := hl7.at (List.mem_cons_self)
              have hbN7 := hl7.at (List.mem_cons_of_mem _ List.mem_cons_self)
              have p0 : w7.cell? ⟨M, 0, none⟩ = some (.int .i64 xa) := by rw [cell_of_row w7 M _ _ 48 (0, 0) hbM7]; rfl
              have p1 : w7.cell? ⟨M, 1, none⟩ = some (.int .i64 xb) := by rw [cell_of_row w7 M _ _ 48 (0, 0) hbM7]; rfl
              have p2 : w7.cell? ⟨M, 2, none⟩ = some (.int .i64 xc) := by rw [cell_of_row w7 M _ _ 48 (0, 0) hbM7]; rfl
              have s0 : w7.cell? ⟨NL, 0, none⟩ = some (.int .i64 ya) := by rw [cell_of_row w7 NL _ _ 48 (0, 0) hbN7]; rfl
              have t0 : w7.frozen? ⟨NL, 0, none⟩ = false := Lib.frozen_of_heap hbN7 _
              have s1 : w7.cell? ⟨NL, 1, none⟩ = some (.int .i64 yb) := by rw [cell_of_row w7 NL _ _ 48 (0, 0) hbN7]; rfl
              have t1 : w7.frozen? ⟨NL, 1, none⟩ = false := Lib.frozen_of_heap hbN7 _
              have s2 : w7.cell? ⟨NL, 2, none⟩ = some (.int .i64 yc) := by rw [cell_of_row w7 NL _ _ 48 (0, 0) hbN7]; rfl
              have t2 : w7.frozen? ⟨NL, 2, none⟩ = false := Lib.frozen_of_heap hbN7 _
              have hs1 := hl7.set (By := []) (i := 0) (.int .i64 xa) (List.mem_cons_of_mem _ List.mem_cons_self) (fun b hb => by simp at hb)
              have hs2 := hs1.set (By := []) (i := 1) (.int .i64 xb) List.mem_cons_self (fun b hb => by simp at hb)
              have hs3 := hs2.set (By := []) (i := 2) (.int .i64 xc) List.mem_cons_self (fun b hb => by simp at hb)
              have HS3 := Lib.hid hs3
              clear cD hl7 hbM7 hbN7 hs1 hs2 hs3
              go_wp2
              go_roundw
              case rel => exact ⟨k2 + 1, popQ q2 (.some (xa, xb, xc)) l n, delC L2 (xa, xb), (xa, xb, xc), by simp, by have := HLN.out; omega, HS3.out, HLQ2.out, by rw [popQ_pu]; exact HPU2.out, HFX.out, fun _ => HBX2.out⟩
              case measure => simp [intOf]; omega
          · have hgoI2 : ¬ (k2 : Int) < (m : Int) := by omega
            have hL0 : L2 = [] := List.eq_nil_of_length_eq_zero (by omega)
            subst hL0
            have cP := la_pop (fun v u => live_LazyAll_2 Kl (Kl + 1) v u []) hla (by omega)
            have HLA2 := Lib.hid hla
            have hze := item_eql_yes 0 0 0
            have hkn : q2.known = [] := hlq.known
            have HKN := Lib.hid hkn
            clear hla hlq hbt hfy hkn
            go_wp2_with fail
            refine cP.mono ?_
            rintro e w6 ⟨o, l, n, hpo, rfl, hl6⟩
            obtain ⟨rfl, rfl⟩ := laq_end HLA2.out.sane hpo
            have g6 : Grown w6 (w6.alloc (.cells #[.int .i64 0, .int .i64 0, .int .i64 0] 48)) := (Grown.refl w6).alloc _
            have cL := la_len (hl6.grown g6)
            have cK := la_known (hl6.grown g6)
            have hpk : (popQ q2 Option.none [] n).known = [] := HKN.out
            rw [hpk] at cK
            simp only [popQ, List.length_nil] at cL cK
            have HBL := Lib.hid (hl6.grown g6).bel
            clear cP hpo hl6 g6 hpk
            unfold popV itemV
            simp only
            go_wp2_with fail
            refine cL.mono ?_
            rintro e w8 ⟨rfl, rfl⟩
            go_wp2_with fail
            refine cK.mono ?_
            rintro e w8 ⟨rfl, rfl⟩
            go_wp2
            go_ret
            exact ⟨rfl, HBL.out⟩
end Go.Proofs.Ytbnekkcjkdghcaa
