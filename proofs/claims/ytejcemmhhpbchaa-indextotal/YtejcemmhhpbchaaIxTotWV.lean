/- IndexTotal, walked. -/
import Derived.Test.YtejcemmhhpbchaaGE
namespace Go.Proofs.Ytejcemmhhpbchaa
open Go.RowKit Go.Maps

set_option maxRecDepth 100000 in
theorem xmax_run (n : Nat) (ty : TypeId) (w : World) : (Builtin.max_ #[3, 3] ty #[.int .i64 ((n : Int) - 1), .int .i64 0]).run Try.prog w = .ok (.int .i64 ((n - 1 : Nat) : Int)) w := by
  rw [run_max_int2]
  congr 2
  split <;> omega
/-- What a law keeps of the index, i merges on. -/
structure ItM (L : Bag) (i : Nat) (M : Mdl) : Prop where
  good : GoodM M (10000 + (i : Int)) (fun _ _ => True)
  first : i = 0 → wtW M.ws = wtW (wsOf L)
  wt : wtW M.ws ≤ wtW (wsOf L)
  len : lenW M.ws ≤ 400
  many : M.ws.length = L.length
  times : M.ws.map (·.2) = L.map (·.2)
  pos : M.pos = lenW M.ws
  tou : 0 ≤ M.tou ∧ M.tou ≤ 100 * (i : Int)
set_option maxRecDepth 100000 in
theorem ItM.keys {L : Bag} {i : Nat} {M : Mdl} (h : ItM L i M) : M.cnt.length ≤ 400 := by
  have h1 := cn_len h.good.cnt h.good.pos h.good.tells
  have := h.len; omega
set_option maxRecDepth 100000 in
theorem ItM.start {L : Bag} {M : Mdl} {had : Int × Int → Int → Prop} (h : GoodM M 256 had) (h1 : M.ws = wsOf L) (h2 : M.pos = (bytesOf L : Int)) (h3 : M.tou = 0) (hb : bytesOf L ≤ 400) : ItM L 0 M := by
  refine ⟨(h.up (s' := 10000) (by decide) (by decide)).weaken fun _ _ _ => trivial, fun _ => by rw [h1], by rw [h1]; exact Int.le_refl _, by rw [h1, ws_bytes]; omega, by rw [h1, ws_len], ?_, by rw [h1, ws_bytes, h2], by rw [h3]; exact ⟨Int.le_refl _, by omega⟩⟩
  rw [h1]; unfold wsOf; rw [List.map_map]; rfl
set_option maxRecDepth 100000 in
theorem ItM.idle {L : Bag} {i : Nat} {M : Mdl} (h : ItM L i M) (hi : i ≤ 100) : ItM L (i + 1) M := by
  refine ⟨h.good.up (by omega) (by omega), fun e => by omega, h.wt, h.len, h.many, h.times, h.pos, h.tou.1, ?_⟩
  have := h.tou.2; omega
set_option maxRecDepth 100000 in
theorem ItM.next {L : Bag} {i : Nat} {M M' : Mdl} {p : Int × Int} {T : Int} {had : Int × Int → Int → Prop} (h : ItM L i M) (hL : L.length ≤ 60) (hw : M'.ws = mergeWs p (10000 + (i : Int)) M.ws) (hg : GoodM M' (10000 + (i : Int) + 1) had) (hp : M'.pos = M.pos - T) (hs : T + lenW M'.ws = lenW M.ws) (ht : M'.tou = M.tou + ((M.pl p).length : Int)) : ItM L (i + 1) M' := by
  have hpl := h.good.plen p
  have hm := h.many
  have hlm := len_merge (p := p) (s := 10000 + (i : Int)) M.ws
  refine ⟨?_, fun e => by omega, ?_, ?_, ?_, ?_, ?_, ?_, ?_⟩
  · have := hg.weaken (had' := fun _ _ => True) fun _ _ _ => trivial
    rw [show 10000 + ((i + 1 : Nat) : Int) = 10000 + (i : Int) + 1 by omega]
    exact this
  · rw [hw]; exact Int.le_trans (wt_merge h.good.pos) h.wt
  · rw [hw]; have := h.len; omega
  · rw [hw]; unfold mergeWs; rw [List.length_map]; exact hm
  · rw [hw]; unfold mergeWs; rw [List.map_map]; exact h.times
  · rw [hp, h.pos]; omega
  · rw [ht]; have := h.tou.1; omega
  · rw [ht]; have := h.tou.2; omega
set_option maxRecDepth 100000 in
theorem ItM.word {L : Bag} {i : Nat} {M : Mdl} (h : ItM L i M) {k : Nat} (hk : k < L.length) : ∃ X, M.ws[k]? = some (X, L[k].2) := by
  have hk2 : k < M.ws.length := by rw [h.many]; exact hk
  obtain ⟨X, t, e⟩ : ∃ X t, M.ws[k]? = some (X, t) := ⟨_, _, List.getElem?_eq_getElem hk2⟩
  have h1 := congrArg (fun l => l[k]?) h.times
  simp only [List.getElem?_map, e, List.getElem?_eq_getElem hk, Option.map_some, Option.some.injEq] at h1
  exact ⟨X, by rw [e, h1]⟩
set_option maxRecDepth 100000 in
theorem wt_step {ws : List Wd} {k : Nat} {X : List Int} {t : Int} (h : ws[k]? = some (X, t)) : wtW (ws.take (k + 1)) = wtW (ws.take k) + t * ((X.length - 1 : Nat) : Int) := by
  obtain ⟨hk, e⟩ := List.getElem?_eq_some_iff.1 h
  rw [List.take_succ_eq_append_getElem hk, e]
  unfold wtW
  rw [sumW_app]; simp [sumW]
set_option maxRecDepth 100000 in
theorem sumF_nonneg {f : Int × Int → Int} (h : ∀ q, 0 ≤ f q) : ∀ Q : List (Int × Int), 0 ≤ sumF f Q
  | [] => Int.le_refl _
  | q :: r => by have h1 := h q; have h2 := sumF_nonneg h r; rw [sumF]; omega
set_option maxRecDepth 100000 in
theorem sumF_take {f : Int × Int → Int} (h : ∀ q, 0 ≤ f q) (Q : List (Int × Int)) (k : Nat) : sumF f (Q.take k) ≤ sumF f Q := by
  have e : sumF f (Q.take k) + sumF f (Q.drop k) = sumF f Q := by rw [← sumF_app, List.take_append_drop]
  have := sumF_nonneg h (Q.drop k)
  omega
set_option maxRecDepth 100000 in
theorem sumF_step {f : Int × Int → Int} {Q : List (Int × Int)} {k : Nat} (hk : k < Q.length) : sumF f (Q.take (k + 1)) = sumF f (Q.take k) + f Q[k] := by
  rw [List.take_succ_eq_append_getElem hk, sumF_app]; simp [sumF]
set_option maxRecDepth 100000 in
/-- All counts, of all pairs that are told, are the weight. -/
theorem sum_all {M : Mdl} {s : Int} {had : Int × Int → Int → Prop} (h : GoodM M s had) : sumF (getC M.cnt) (keysC M.cnt) = wtW M.ws := by
  have e : getC M.cnt = totW M.ws := funext h.tells
  have h1 := sum_tot (keys_nodup h.cnt.ris) (ws := M.ws) fun q hq => (keys_adj h.cnt h.pos h.tells).2 hq
  rw [e, h1]
def TotRel (L : Bag) (w : World) (K : Nat) (n : Nat) (iv : Value) (wr : World) : Prop :=
  ∃ (i : Nat) (lab : Nat → Lab) (V : Int × Int → Value) (M : Mdl), iv = .int .i64 (i : Int) ∧ i ≤ n + 1 ∧ XO w lab K (200000 + 300000 * i) V M wr ∧ ItM L i M
def TotSum (w3 : World) (C : Cn) (sv kv : Value) (wr : World) : Prop := ∃ k : Nat, kv = .int .i64 (k : Int) ∧ k ≤ (keysC C).length ∧ sv = .int .i64 (sumF (getC C) ((keysC C).take k)) ∧ Below w3.heap.size w3 wr
def TotWant (w4 : World) (ws : List Wd) (sv kv : Value) (wr : World) : Prop := ∃ k : Nat, kv = .int .i64 (k : Int) ∧ k ≤ ws.length ∧ sv = .int .i64 (wtW (ws.take k)) ∧ Below w4.heap.size w4 wr
set_option maxRecDepth 100000 in
set_option maxHeartbeats 16000000 in
theorem indexTotal_walk (v u : Value) (w : World) (L : Bag) (P : List (Int × Int)) (hv : wordsAt w v L) (hL : L.length ≤ maxLen) (hf : Fits L) (hu : eltsAt pairE w u P) (hPl : P.length ≤ maxLen) (hP : FitsP P) :
    Calls Try.prog 4 #[v, u] w fun e w' => e = .returned (.bool true) ∧ Below w.heap.size w w' := by
  have HV := Lib.hid hv; have HF := Lib.hid hf; have HP := Lib.hid hP; have HU := Lib.hid hu
  have hL2 : L.length ≤ 9223372036854775807 := by unfold maxLen at hL; omega
  have HL2 := Lib.hid hL2
  have HA := Lib.hid (xawake_any w)
  obtain ⟨a, cap, rfl, _⟩ := hv
  obtain ⟨b, cap2, rfl, _⟩ := hu
  obtain ⟨n, hn⟩ : ∃ n, P.length = n := ⟨_, rfl⟩
  have HN := Lib.hid hn
  have hnm : n ≤ 9223372036854775807 := by unfold maxLen at hPl; omega
  rw [hn] at HU ⊢
  clear hf hL hL2 hP hPl hn
  go_enter Try.func4, Try.ntmps4
  go_wp2_with fail
  refine HA.out.mono ?_
  rintro e w2 ⟨rfl, hb2⟩
  have HB2 := Lib.hid hb2
  have cG := xgreat_any _ L w2 (HV.out.below hb2 (Nat.le_refl _)) HL2.out
  clear hb2
  go_wp2_with fail
  refine cG.mono ?_
  rintro e w2' ⟨g, rfl, rfl, hg⟩
  clear cG
  cases g with
  | true =>
    go_wp2
    go_ret
    exact ⟨rfl, HB2.out⟩
  | false =>
    obtain ⟨hl60, hb400⟩ := hg rfl
    have HL60 := Lib.hid hl60; have HB400 := Lib.hid hb400
    clear hg hl60 hb400
    by_cases h30 : n ≤ 30
    · have h30d : decide ((30 : Int) < (n : Int)) = false := decide_eq_false (by omega)
      have h30I : ¬ (30 : Int) < (n : Int) := by omega
      have cN := xnew_any _ L w2' (HV.out.below HB2.out (Nat.le_refl _)) HF.out (by have := HL60.out; omega) (by have := HB400.out; omega)
      go_wp2_with fail
      refine cN.mono ?_
      rintro e w10 ⟨hb10, ⟨hno, rfl⟩ | ⟨h0, K, lab, V, M, rfl, hM, hG, hws, hpos, htou, hlab⟩⟩
      · have HW10 : Hid (Below w.heap.size w w10) := Lib.hid (HB2.out.trans (hb10.mono HB2.out.size))
        obtain ⟨er, her⟩ : ∃ er, (checkOf L).2 = er := ⟨_, rfl⟩
        rw [her] at hno ⊢
        have hne : (er != 0) = true := by simp [hno]
        have hne2 : (er == 0) = false := by simp [hno]
        clear hb10 cN hno her
        go_wp2_with fail
        go_ret
        exact ⟨by first | rfl | simp [hne] | simp [hne2], HW10.out⟩
      · have HO : Hid (XO w lab K 200000 V M w10) := Lib.hid ⟨hM, HB2.out.trans (hb10.mono HB2.out.size), fun i hi => hlab i (by have := HB2.out.size; omega)⟩
        have HRF := Lib.hid (right_facts h0)
        have HIT := Lib.hid (ItM.start hG hws hpos htou HB400.out)
        have cW := refWeight_any _ L w10 (HV.out.below HO.out.bel (Nat.le_refl _)) HL2.out HF.out
        obtain ⟨W0, hW0⟩ : ∃ W0, wtW (wsOf L) = W0 := ⟨_, rfl⟩
        rw [HRF.out.2.1, hW0] at cW
        have HW0 := Lib.hid hW0
        clear hM hG hws hpos htou hlab hb10 cN h0 hW0
        go_wp2_with fail
        refine cW.mono ?_
        rintro e w11 ⟨rfl, nd, rfl⟩
        have HO11 := Lib.hid (HO.out.below (below_drewN' (Below.refl _ w10) nd))
        obtain ⟨wz, hwz⟩ : ∃ wz, w10.drewN nd = wz := ⟨_, rfl⟩
        rw [hwz] at HO11 ⊢
        clear cW hwz
        go_wp2_with fail
        obtain ⟨m, hm⟩ : ∃ m, L.length = m := ⟨_, rfl⟩
        have HMM := Lib.hid hm
        have HW0M : Hid (W0 ≤ 9223372036854775807) := Lib.hid (by have := HRF.out.2.2; have := HW0.out; omega)
        have hm60 : m ≤ 60 := by have := HL60.out; omega
        rw [hm] at HV ⊢
        clear hm h30d
        go_loopw [9] (fun iv wr => TotRel L w K n iv wr) (fun iv _ => n + 2 - (intOf iv).toNat)
        case atStart => exact ⟨0, lab, V, M, rfl, by omega, HO11.out, HIT.out⟩
        case round =>
          obtain ⟨i, lab1, V1, M1, rfl, hi, hO, hI⟩ := hrel
          have HO1 := Lib.hid hO; have HI1 := Lib.hid hI
          clear hO hI
          by_cases hgo : i ≤ n
          · have hiI : (i : Int) ≤ (n : Int) := by omega
            have hk4 : M1.cnt.length ≤ 400 := HI1.out.keys
            have HK4 : Hid ((keysC M1.cnt).length ≤ 400) := Lib.hid (by unfold keysC; rw [List.length_map]; exact hk4)
            have cA := xpairs_any K _ lab1 V1 M1 wr HO1.out.ix (by omega)
            clear hk4
            go_wp2_with fail
            refine cA.mono ?_
            rintro e w3 ⟨r3, rfl, ho3, hb3⟩
            have HO3 := Lib.hid (HO1.out.below hb3)
            have HR3 := Lib.hid ho3.reads
            obtain ⟨ra, rc, rfl, _⟩ := ho3.form
            obtain ⟨c, hc⟩ : ∃ c, (keysC M1.cnt).length = c := ⟨_, rfl⟩
            have HCC := Lib.hid hc
            have hc4 : c ≤ 400 := by have := HK4.out; omega
            have hcI : ¬ (1000 : Int) < (c : Int) := by omega
            rw [hc] at HR3 ⊢
            clear ho3 hb3 cA hc
            go_wp2_with fail
            go_loopw [10, 13] (fun sv kv wr => TotSum w3 M1.cnt sv kv wr) (fun _ kv _ => c + 1 - (intOf kv).toNat)
            case atStart => exact ⟨0, rfl, Nat.zero_le _, rfl, Below.refl _ _⟩
            case round =>
              obtain ⟨wo, hwo⟩ : ∃ wo, wo = wr := ⟨_, rfl⟩
              subst hwo
              obtain ⟨k, rfl, hk, rfl, hbk⟩ := hrel
              have HBK := Lib.hid hbk
              rw [HCC.out] at hk
              clear hbk
              obtain ⟨S, hS⟩ : ∃ S, sumF (getC M1.cnt) ((keysC M1.cnt).take k) = S := ⟨_, rfl⟩
              have HS := Lib.hid hS
              have hnn : ∀ q, 0 ≤ getC M1.cnt q := fun q => (HI1.out.good.cnt.get q).1
              have HNNQ := Lib.hid hnn
              have hS0 : 0 ≤ S := by rw [← hS]; exact sumF_nonneg hnn _
              rw [hS]
              clear hS
              by_cases hgk : k < c
              · have hkI : (k : Int) < (c : Int) := by omega
                have hkL : k < (keysC M1.cnt).length := by rw [HCC.out]; exact hgk
                obtain ⟨ad, rfl⟩ := pair_some HR3.out hkL
                obtain ⟨e0, e1⟩ := pairs_at HR3.out HBK.out hkL
                obtain ⟨⟨z0, z1⟩, hz⟩ : ∃ z, (keysC M1.cnt)[k] = z := ⟨_, rfl⟩
                rw [hz] at e0 e1
                simp only at e0 e1
                have hfz : FitsPr (z0, z1) := by
                  obtain ⟨x, hx, hxe⟩ := List.mem_map.1 (List.getElem_mem hkL)
                  rw [hz] at hxe
                  rw [← hxe]; exact (HI1.out.good.cnt.fits x hx).1
                obtain ⟨d, hd⟩ : ∃ d, getC M1.cnt (z0, z1) = d := ⟨_, rfl⟩
                have hst := sumF_step (f := getC M1.cnt) hkL
                rw [hz, HS.out, hd] at hst
                have HST := Lib.hid hst
                have hle : S + d ≤ W0 := by
                  have h1 := sumF_take hnn (keysC M1.cnt) (k + 1)
                  rw [hst, sum_all HI1.out.good] at h1
                  have h2 := HI1.out.wt; have h3 := HW0.out
                  omega
                have hd0 : 0 ≤ d := by rw [← hd]; exact hnn _
                have hwr : IntKind.i64.wrap (S + d) = S + d := IntWalk.i64_in _ (by have := HW0M.out; omega)
                have cC := xcount_any K _ lab1 V1 M1 z0 z1 wo (HO3.out.below HBK.out).ix hfz
                rw [hd] at cC
                clear hz hfz hst hle hd hnn hkL
                go_wp2_with fail
                refine cC.mono ?_
                rintro e w5 ⟨rfl, hb5⟩
                have HB5 := Lib.hid (HBK.out.trans (hb5.mono HBK.out.size))
                clear hb5 cC
                go_wp2
                go_roundw
                case rel => exact ⟨k + 1, by simp, by rw [HCC.out]; omega, by rw [HST.out], HB5.out⟩
                case measure => simp [intOf] <;> omega
              · have hkI : ¬ (k : Int) < (c : Int) := by omega
                obtain rfl : k = c := by omega
                have hSw : S = wtW M1.ws := by
                  rw [← HS.out, List.take_of_length_le (by rw [HCC.out]; exact Nat.le_refl _)]
                  exact sum_all HI1.out.good
                have HSW := Lib.hid hSw
                have HO4 := Lib.hid (HO3.out.below HBK.out)
                clear hnn hSw
                go_wp2_with fail
                go_loopw [11, 14] (fun sv kv wr => TotWant wo M1.ws sv kv wr) (fun _ kv _ => m + 1 - (intOf kv).toNat)
                case atStart => exact ⟨0, rfl, Nat.zero_le _, rfl, Below.refl _ _⟩
                case round =>
                  obtain ⟨wp, hwp⟩ : ∃ wp, wp = wr := ⟨_, rfl⟩
                  subst hwp
                  obtain ⟨j, rfl, hj, rfl, hbj⟩ := hrel
                  have HBJ := Lib.hid hbj
                  rw [HI1.out.many, HMM.out] at hj
                  clear hbj
                  obtain ⟨Q, hQ⟩ : ∃ Q, wtW (M1.ws.take j) = Q := ⟨_, rfl⟩
                  have HQ := Lib.hid hQ
                  have hpos := HI1.out.good.pos
                  have hQ0 : 0 ≤ Q := by rw [← hQ]; exact sumW_nonneg fun x hx => mulz (by have := hpos x (List.mem_of_mem_take hx); omega) (by omega)
                  rw [hQ]
                  clear hQ
                  by_cases hgj : j < m
                  · have hjI : (j : Int) < (m : Int) := by omega
                    have hjL : j < L.length := by rw [HMM.out]; exact hgj
                    obtain ⟨X, hX⟩ := HI1.out.word hjL
                    have HO5 := Lib.hid (HO4.out.below HBJ.out)
                    obtain ⟨aw, rfl⟩ : ∃ ad, a = some ad := by
                      obtain ⟨_, _, e, hc⟩ := HV.out
                      obtain ⟨ad, e2, _⟩ := hc j hjL
                      exact ⟨ad, (Value.slice.inj e).1.trans e2⟩
                    have HCL : Hid (∀ W', Below wp.heap.size wp W' → W'.cell? ⟨(aw.add (j * 2)).block, (aw.add (j * 2)).off + 1, none⟩ = some (.int .i64 L[j].2)) := Lib.hid fun W' hW' => (words_at HV.out (HO5.out.below hW').bel hjL).2
                    obtain ⟨t, ht⟩ : ∃ t, L[j].2 = t := ⟨_, rfl⟩
                    rw [ht] at hX HCL
                    obtain ⟨l, hl⟩ : ∃ l, X.length = l := ⟨_, rfl⟩
                    have hst := wt_step hX
                    rw [HQ.out, hl] at hst
                    have hle : Q + t * ((l - 1 : Nat) : Int) ≤ W0 := by
                      have h1 := wt_take hpos (j + 1)
                      rw [hst] at h1
                      have h2 := HI1.out.wt; have h3 := HW0.out
                      omega
                    have ht1 : 1 ≤ t := hpos _ (List.mem_of_getElem? hX)
                    have hl4 : l ≤ 1000 := by
                      obtain ⟨_, _, _, _, _, _, _, _, _, hq, _⟩ := HO5.out.ix.word hX
                      rw [← hl]; exact hq.fewX
                    have hmz := mulz (a := t) (b := ((l - 1 : Nat) : Int)) (by omega) (by omega)
                    have hmx := fun ty w => xmax_run l ty w
                    obtain ⟨l1, hl1⟩ : ∃ l1 : Int, ((l - 1 : Nat) : Int) = l1 := ⟨_, rfl⟩
                    rw [hl1] at hst hle hmz
                    simp only [hl1] at hmx
                    have hwr1 : IntKind.i64.wrap ((l : Int) - 1) = (l : Int) - 1 := IntWalk.i64_in _ (by omega)
                    have hwr2 : IntKind.i64.wrap (t * l1) = t * l1 := IntWalk.i64_in _ (by have := HW0M.out; omega)
                    have hwr3 : IntKind.i64.wrap (Q + t * l1) = Q + t * l1 := IntWalk.i64_in _ (by have := HW0M.out; omega)
                    have HSTJ := Lib.hid hst
                    have HCS : Hid (Calls Try.prog 11 #[.pointer (some ⟨K, 0, none⟩), .int .i64 (j : Int)] wp.drew fun e w' => ∃ r1 r2, e = .returned (.slice r1 l r2) ∧ Below wp.heap.size wp w') := Lib.hid (by
                      refine (xsyms_any K _ lab1 V1 M1 j X t wp.drew HO5.out.ix.drew hX).mono ?_
                      rintro e w' ⟨r, rfl, ho, hb⟩
                      obtain ⟨r1, r2, rfl, _⟩ := ho.form
                      exact ⟨r1, r2, by rw [hl], ⟨hb.os, hb.tape, hb.output, hb.size, hb.block⟩⟩)
                    have HZ1 := Lib.hid (HCL.out wp (Below.refl _ _))
                    have HZ2 := Lib.hid (HCL.out wp.drew (Below.refl _ _).drew)
                    clear hX hst hle ht1 hl4 hmz hpos ht hl hl1 hjL
                    go_wp2_with fail
                    go_region_held3 (fun w' => w'.cell? ⟨(aw.add (j * 2)).block, (aw.add (j * 2)).off + 1, none⟩ = some (.int .i64 t)) (first | exact HZ1.out | exact HZ2.out | exact HZ6.out) (first
                      | (go_at_call 11
                         with_reducible refine HCS.out.mono ?_
                         rintro e w6 ⟨r1, r2, rfl, hb6⟩
                         have HZ6 := Lib.hid (HCL.out w6 hb6)
                         have HB6 := Lib.hid (HBJ.out.trans (hb6.mono HBJ.out.size))
                         clear hb6))
                    all_goals (
                      go_wp2
                      go_roundw
                      case rel => exact ⟨j + 1, by simp, by rw [HI1.out.many, HMM.out]; omega, by rw [HSTJ.out], HB6.out⟩
                      case measure => simp [intOf] <;> omega)
                  · have hjI : ¬ (j : Int) < (m : Int) := by omega
                    obtain rfl : j = m := by omega
                    have hQw : Q = S := by
                      rw [HSW.out, ← HQ.out, List.take_of_length_le (by rw [HI1.out.many, HMM.out]; exact Nat.le_refl _)]
                    subst hQw
                    have HO6 := Lib.hid (HO4.out.below HBJ.out)
                    have hle : ¬ W0 < Q := by
                      have h2 := HI1.out.wt; have h3 := HW0.out; have h4 := HSW.out
                      omega
                    have hcase : (((i : Int) == 0) = true ∧ (Q != W0) = false) ∨ ((i : Int) == 0) = false := by
                      by_cases e : i = 0
                      · have h2 := HI1.out.first e; have h3 := HW0.out; have h4 := HSW.out
                        have h5 : Q = W0 := by omega
                        exact .inl ⟨by simp [e], by simp [h5]⟩
                      · have h5 : ¬ (i : Int) = 0 := by omega
                        exact .inr (by simp [e])
                    have hle2 : decide (W0 < Q) = false := decide_eq_false hle
                    have hqq : (Q != Q) = false := by simp
                    clear hpos
                    by_cases hin : i < n
                    · have hinI : (i : Int) < (n : Int) := by omega
                      have hiL : i < P.length := by rw [HN.out]; exact hin
                      obtain ⟨ap, rfl⟩ := pair_some HU.out hiL
                      obtain ⟨e0, e1⟩ := pairs_at HU.out HO6.out.bel hiL
                      obtain ⟨⟨z0, z1⟩, hz⟩ : ∃ z, P[i] = z := ⟨_, rfl⟩
                      rw [hz] at e0 e1
                      simp only at e0 e1
                      have hfz : FitsPr (z0, z1) := by rw [← hz]; exact HP.out _ (List.getElem_mem hiL)
                      have hwr : IntKind.i64.wrap (10000 + (i : Int)) = 10000 + (i : Int) := IntWalk.i64_in _ (by omega)
                      have HCM := Lib.hid (xmerge_any K _ lab1 V1 M1 z0 z1 (10000 + (i : Int)) _ wp HO6.out.ix HI1.out.good hfz (by omega) (by have := HI1.out.len; omega) (by rw [HI1.out.many, HMM.out]; omega) (by rw [HI1.out.pos]; have := HI1.out.len; have := lenW_nonneg M1.ws; omega) (by have := HI1.out.tou; omega) (by omega) (by have := HI1.out.keys; omega))
                      clear hz hfz hiL hin
                      rcases hcase with ⟨hi0, hqw⟩ | hi0
                      all_goals (
                        go_wp2_with fail
                        refine HCM.out.mono ?_
                        rintro e w7 ⟨T, r7, Y, lab7, V7, M7, rfl, _, _, _, _, hM7, hx7, hws7, hG7, hp7, hsum7, ht7⟩
                        have hpl := HI1.out.good.plen (z0, z1)
                        have HI7 := Lib.hid (HI1.out.next (by rw [HMM.out]; exact hm60) hws7 hG7 hp7 hsum7 ht7)
                        have HO7 := Lib.hid (HO6.out.step (hM7.mono (N' := 200000 + 300000 * (i + 1)) (by have := HI1.out.many; have := HMM.out; omega)) hx7)
                        clear hM7 hx7 hws7 hG7 hp7 hsum7 ht7 hpl
                        go_wp2_with fail
                        go_roundw
                        case rel => exact ⟨i + 1, lab7, V7, M7, by simp, by omega, HO7.out, HI7.out⟩
                        case measure => simp [intOf] <;> omega)
                    · have hinI : ¬ (i : Int) < (n : Int) := by omega
                      have HI7 := Lib.hid (HI1.out.idle (by omega))
                      have HO7 : Hid (XO w lab1 K (200000 + 300000 * (i + 1)) V1 M1 wp) := Lib.hid ⟨HO6.out.ix.mono (by omega), HO6.out.bel, HO6.out.no⟩
                      clear hin
                      rcases hcase with ⟨hi0, hqw⟩ | hi0
                      all_goals (
                        go_wp2_with fail
                        go_roundw
                        case rel => exact ⟨i + 1, lab1, V1, M1, by simp, by omega, HO7.out, HI7.out⟩
                        case measure => simp [intOf] <;> omega)
          · have hiI : ¬ (i : Int) ≤ (n : Int) := by omega
            go_wp2
            go_ret
            exact ⟨rfl, HO1.out.bel⟩
    · have h30d : decide ((30 : Int) < (n : Int)) = true := decide_eq_true (by omega)
      have h30I : (30 : Int) < (n : Int) := by omega
      go_wp2
      go_ret
      exact ⟨rfl, HB2.out⟩
end Go.Proofs.Ytejcemmhhpbchaa
