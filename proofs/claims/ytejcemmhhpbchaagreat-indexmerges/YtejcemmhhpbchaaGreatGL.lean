/- Texts in one: IxTotW, IxMerP, IxMerW. -/
import Derived.Test.YtejcemmhhpbchaaGreatGE
import Derived.Test.YtejcemmhhpbchaaGreatGJ
import Derived.Test.YtejcemmhhpbchaaGreatGF
/- IndexTotal, walked. -/
namespace Go.Proofs.YtejcemmhhpbchaaGreat
open Go.RowKit Go.Maps

set_option maxRecDepth 100000 in
theorem xmax_run (n : Nat) (ty : TypeId) (w : World) : (Builtin.max_ #[3, 3] ty #[.int .i64 ((n : Int) - 1), .int .i64 0]).run Tryz.prog w = .ok (.int .i64 ((n - 1 : Nat) : Int)) w := by
  rw [run_max_int2]
  congr 2
  split <;> omega
/-- What a law keeps of the index, i merges on. -/
structure ItM (L : Bag) (i : Nat) (M : Mdl) : Prop where
  good : GoodM M (10000 + (i : Int)) (fun _ _ => True)
  first : i = 0 → wtW M.ws = wtW (wsOf L)
  wt : wtW M.ws ≤ wtW (wsOf L)
  len : lenW M.ws ≤ 400
  many : M.ws.length = L.length
  times : M.ws.map (·.2) = L.map (·.2)
  pos : M.pos = lenW M.ws
  tou : 0 ≤ M.tou ∧ M.tou ≤ 100 * (i : Int)
set_option maxRecDepth 100000 in
theorem ItM.keys {L : Bag} {i : Nat} {M : Mdl} (h : ItM L i M) : M.cnt.length ≤ 400 := by
  have h1 := cn_len h.good.cnt h.good.pos h.good.tells
  have := h.len; omega
set_option maxRecDepth 100000 in
theorem ItM.start {L : Bag} {M : Mdl} {had : Int × Int → Int → Prop} (h : GoodM M 256 had) (h1 : M.ws = wsOf L) (h2 : M.pos = (bytesOf L : Int)) (h3 : M.tou = 0) (hb : bytesOf L ≤ 400) : ItM L 0 M := by
  refine ⟨(h.up (s' := 10000) (by decide) (by decide)).weaken fun _ _ _ => trivial, fun _ => by rw [h1], by rw [h1]; exact Int.le_refl _, by rw [h1, ws_bytes]; omega, by rw [h1, ws_len], ?_, by rw [h1, ws_bytes, h2], by rw [h3]; exact ⟨Int.le_refl _, by omega⟩⟩
  rw [h1]; unfold wsOf; rw [List.map_map]; rfl
set_option maxRecDepth 100000 in
theorem ItM.idle {L : Bag} {i : Nat} {M : Mdl} (h : ItM L i M) (hi : i ≤ 100) : ItM L (i + 1) M := by
  refine ⟨h.good.up (by omega) (by omega), fun e => by omega, h.wt, h.len, h.many, h.times, h.pos, h.tou.1, ?_⟩
  have := h.tou.2; omega
set_option maxRecDepth 100000 in
theorem ItM.next {L : Bag} {i : Nat} {M M' : Mdl} {p : Int × Int} {T : Int} {had : Int × Int → Int → Prop} (h : ItM L i M) (hL : L.length ≤ 60) (hw : M'.ws = mergeWs p (10000 + (i : Int)) M.ws) (hg : GoodM M' (10000 + (i : Int) + 1) had) (hp : M'.pos = M.pos - T) (hs : T + lenW M'.ws = lenW M.ws) (ht : M'.tou = M.tou + ((M.pl p).length : Int)) : ItM L (i + 1) M' := by
  have hpl := h.good.plen p
  have hm := h.many
  have hlm := len_merge (p := p) (s := 10000 + (i : Int)) M.ws
  refine ⟨?_, fun e => by omega, ?_, ?_, ?_, ?_, ?_, ?_, ?_⟩
  · have := hg.weaken (had' := fun _ _ => True) fun _ _ _ => trivial
    rw [show 10000 + ((i + 1 : Nat) : Int) = 10000 + (i : Int) + 1 by omega]
    exact this
  · rw [hw]; exact Int.le_trans (wt_merge h.good.pos) h.wt
  · rw [hw]; have := h.len; omega
  · rw [hw]; unfold mergeWs; rw [List.length_map]; exact hm
  · rw [hw]; unfold mergeWs; rw [List.map_map]; exact h.times
  · rw [hp, h.pos]; omega
  · rw [ht]; have := h.tou.1; omega
  · rw [ht]; have := h.tou.2; omega
set_option maxRecDepth 100000 in
theorem ItM.word {L : Bag} {i : Nat} {M : Mdl} (h : ItM L i M) {k : Nat} (hk : k < L.length) : ∃ X, M.ws[k]? = some (X, L[k].2) := by
  have hk2 : k < M.ws.length := by rw [h.many]; exact hk
  obtain ⟨X, t, e⟩ : ∃ X t, M.ws[k]? = some (X, t) := ⟨_, _, List.getElem?_eq_getElem hk2⟩
  have h1 := congrArg (fun l => l[k]?) h.times
  simp only [List.getElem?_map, e, List.getElem?_eq_getElem hk, Option.map_some, Option.some.injEq] at h1
  exact ⟨X, by rw [e, h1]⟩
set_option maxRecDepth 100000 in
theorem wt_step {ws : List Wd} {k : Nat} {X : List Int} {t : Int} (h : ws[k]? = some (X, t)) : wtW (ws.take (k + 1)) = wtW (ws.take k) + t * ((X.length - 1 : Nat) : Int) := by
  obtain ⟨hk, e⟩ := List.getElem?_eq_some_iff.1 h
  rw [List.take_succ_eq_append_getElem hk, e]
  unfold wtW
  rw [sumW_app]; simp [sumW]
set_option maxRecDepth 100000 in
theorem sumF_nonneg {f : Int × Int → Int} (h : ∀ q, 0 ≤ f q) : ∀ Q : List (Int × Int), 0 ≤ sumF f Q
  | [] => Int.le_refl _
  | q :: r => by have h1 := h q; have h2 := sumF_nonneg h r; rw [sumF]; omega
set_option maxRecDepth 100000 in
theorem sumF_take {f : Int × Int → Int} (h : ∀ q, 0 ≤ f q) (Q : List (Int × Int)) (k : Nat) : sumF f (Q.take k) ≤ sumF f Q := by
  have e : sumF f (Q.take k) + sumF f (Q.drop k) = sumF f Q := by rw [← sumF_app, List.take_append_drop]
  have := sumF_nonneg h (Q.drop k)
  omega
set_option maxRecDepth 100000 in
theorem sumF_step {f : Int × Int → Int} {Q : List (Int × Int)} {k : Nat} (hk : k < Q.length) : sumF f (Q.take (k + 1)) = sumF f (Q.take k) + f Q[k] := by
  rw [List.take_succ_eq_append_getElem hk, sumF_app]; simp [sumF]
set_option maxRecDepth 100000 in
/-- All counts, of all pairs that are told, are the weight. -/
theorem sum_all {M : Mdl} {s : Int} {had : Int × Int → Int → Prop} (h : GoodM M s had) : sumF (getC M.cnt) (keysC M.cnt) = wtW M.ws := by
  have e : getC M.cnt = totW M.ws := funext h.tells
  have h1 := sum_tot (keys_nodup h.cnt.ris) (ws := M.ws) fun q hq => (keys_adj h.cnt h.pos h.tells).2 hq
  rw [e, h1]
def TotRel (L : Bag) (w : World) (K : Nat) (n : Nat) (iv : Value) (wr : World) : Prop :=
  ∃ (i : Nat) (lab : Nat → Lab) (V : Int × Int → Value) (M : Mdl), iv = .int .i64 (i : Int) ∧ i ≤ n + 1 ∧ XO w lab K (200000 + 300000 * i) V M wr ∧ ItM L i M
def TotSum (w3 : World) (C : Cn) (sv kv : Value) (wr : World) : Prop := ∃ k : Nat, kv = .int .i64 (k : Int) ∧ k ≤ (keysC C).length ∧ sv = .int .i64 (sumF (getC C) ((keysC C).take k)) ∧ Below w3.heap.size w3 wr
def TotWant (w4 : World) (ws : List Wd) (sv kv : Value) (wr : World) : Prop := ∃ k : Nat, kv = .int .i64 (k : Int) ∧ k ≤ ws.length ∧ sv = .int .i64 (wtW (ws.take k)) ∧ Below w4.heap.size w4 wr
end Go.Proofs.YtejcemmhhpbchaaGreat
/- The index and the document's, side by side. -/
namespace Go.Proofs.YtejcemmhhpbchaaGreat
open Go.RowKit Go.Maps

set_option maxRecDepth 100000 in
set_option maxHeartbeats 1000000 in
theorem xsyms_out (K N : Nat) (lab : Nat → Lab) (V : Int × Int → Value) (M : Mdl) (z : Int) (w : World) (h : IxM w lab K N V M) (hz : z < 0 ∨ (M.ws.length : Int) ≤ z) : Calls Tryz.prog 19 #[.pointer (some ⟨K, 0, none⟩), .int .i64 z] w fun e w' => e = .returned (.slice none 0 0) ∧ w' = w := by
  have hrow : ∃ a c, w.cell? ⟨K, 0, none⟩ = some (.slice a M.ws.length c) := by
    obtain ⟨wv, Kc, mc, b, E, h⟩ := h
    have h1 := h.cells.1
    obtain ⟨a, c, rfl, _⟩ := h.row.form
    exact ⟨a, c, by rw [h1, h.len]⟩
  obtain ⟨a, c, c0⟩ := hrow
  obtain ⟨n, hn⟩ : ∃ n, M.ws.length = n := ⟨_, rfl⟩
  rw [hn] at c0 hz
  clear h hn
  by_cases h0 : z < 0
  · have hd : decide (z < 0) = true := decide_eq_true h0
    clear hz
    go_enter Tryz.func19, Tryz.ntmps19
    go_wp2
    go_ret
    exact ⟨rfl, rfl⟩
  · have h1 : (n : Int) ≤ z := hz.resolve_left h0
    have hd : decide (z < 0) = false := decide_eq_false h0
    have hd1 : decide ((n : Int) ≤ z) = true := decide_eq_true h1
    clear hz
    go_enter Tryz.func19, Tryz.ntmps19
    go_wp2
    go_ret
    exact ⟨rfl, rfl⟩
set_option maxRecDepth 100000 in
theorem sane_of {L : Bag} {w wr : World} {lab : Nat → Lab} {K N i : Nat} {V : Int × Int → Value} {M : Mdl} (x : XO w lab K N V M wr) (it : ItM L i M) (hL : L.length ≤ 60) : SaneW M.ws := by
  have hm := it.many
  refine ⟨it.good.pos, it.good.wt, fun y hy z hz => ?_, it.len, fun y hy => ?_, by omega⟩
  · have h1 := it.good.syms y hy z hz
    have h2 := it.good.sb
    omega
  · obtain ⟨j, hj⟩ := List.mem_iff_getElem?.1 hy
    obtain ⟨X, t⟩ := y
    obtain ⟨_, _, _, _, _, _, _, _, _, hq, _⟩ := x.ix.word hj
    exact hq.fewX
structure Twin (L : Bag) (w : World) (K Kr base i : Nat) (lab : Nat → Lab) (V : Int × Int → Value) (M : Mdl) (v u : Value) (E : List Hd) (wr : World) : Prop where
  x : XO w lab K (200000 + 300000 * i) V M wr
  it : ItM L i M
  r : RIx wr base Kr v u E M.ws
  free : RFree lab Kr v u E
  ge : w.heap.size ≤ base
variable {L : Bag} {w w1 w2 w3 : World} {K Kr base i : Nat} {lab lab2 : Nat → Lab} {V V2 : Int × Int → Value} {M M2 : Mdl} {v u v' : Value} {E E' : List Hd}
set_option maxRecDepth 100000 in
theorem Twin.below (h : Twin L w K Kr base i lab V M v u E w1) (hb : Below w1.heap.size w1 w2) : Twin L w K Kr base i lab V M v u E w2 := ⟨h.x.below hb, h.it, h.r.below hb, h.free, h.ge⟩
set_option maxRecDepth 100000 in
theorem Twin.sane (h : Twin L w K Kr base i lab V M v u E w1) (hL : L.length ≤ 60) : SaneW M.ws := sane_of h.x h.it hL
set_option maxRecDepth 100000 in
theorem Twin.next (h : Twin L w K Kr base i lab V M v u E w1) (x2 : XO w lab2 K (200000 + 300000 * (i + 1)) V2 M2 w2) (it : ItM L (i + 1) M2) (hr2 : RIx w2 base Kr v u E M.ws) (hf2 : RFree lab2 Kr v u E) (hr3 : RIx w3 base Kr v' u E' M2.ws) (hk : Kept (fun g => g = Kr) w2 w3) (hnew : ∀ g, RMine Kr v' u E' g → RMine Kr v u E g ∨ w2.heap.size ≤ g) : Twin L w K Kr base (i + 1) lab2 V2 M2 v' u E' w3 := by
  refine ⟨⟨x2.ix.other hk fun g _ hg => ?_, x2.bel.trans (hk.below x2.bel.size fun g hg => ?_), x2.no⟩, it, hr3, fun g hg => (hnew g hg).elim (hf2 g) x2.ix.fresh, h.ge⟩
  · subst hg; exact hf2 _ (.inl rfl)
  · subst hg; exact Nat.le_trans h.ge hr2.ge
set_option maxRecDepth 100000 in
theorem same_told {p : Int × Int} {s : Int} {Y1 Y2 : List (Int × Int)} (hI : ItM L i M) (hI2 : ItM L (i + 1) M2) (hws : M2.ws = mergeWs p s M.ws) (r1 : Y1.Pairwise pb) (r2 : Y2.Pairwise pb) (i1 : ∀ q, q ∈ Y1 ↔ getC M2.cnt q ≠ getC M.cnt q) (i2 : ∀ q, q ∈ Y2 ↔ totW (mergeWs p s M.ws) q ≠ totW M.ws q) : Y2 = Y1 ∧ Y1.length ≤ 1000000 := by
  refine ⟨rising_unique (fun _ _ h => pb_asymm h) (fun q => ?_) r2 r1, ?_⟩
  · rw [i1, i2, hI2.good.tells, hI.good.tells, hws]
  · have hn : Y1.Nodup := r1.imp fun {a b} (hab : pb a b) (e : a = b) => pb_irrefl b (by rw [e] at hab; exact hab)
    have h1 := len_sub (B := keysC M.cnt ++ keysC M2.cnt) hn fun q hq => by
      have h1 := (i1 q).1 hq
      rw [List.mem_append, keys_get hI.good.cnt, keys_get hI2.good.cnt]
      have a1 := (hI.good.cnt.get q).1
      have a2 := (hI2.good.cnt.get q).1
      omega
    rw [List.length_append, keysC_len, keysC_len] at h1
    have := hI.keys; have := hI2.keys
    omega
def TwRel (L : Bag) (w : World) (K Kr base n : Nat) (iv : Value) (wr : World) : Prop :=
  ∃ (i : Nat) (lab : Nat → Lab) (V : Int × Int → Value) (M : Mdl) (v u : Value) (E : List Hd), iv = .int .i64 (i : Int) ∧ i ≤ n ∧ Twin L w K Kr base i lab V M v u E wr
def CkRel (wb : World) (n : Nat) (iv : Value) (wr : World) : Prop := ∃ k : Nat, iv = .int .i64 (k : Int) ∧ k ≤ n ∧ Below wb.heap.size wb wr
end Go.Proofs.YtejcemmhhpbchaaGreat
/- IndexMerges, walked. -/
namespace Go.Proofs.YtejcemmhhpbchaaGreat
open Go.RowKit Go.Maps

set_option maxRecDepth 100000 in
set_option maxHeartbeats 16000000 in
theorem indexMerges_walk (v u : Value) (w : World) (L : Bag) (P : List (Int × Int)) (hv : wordsAt w v L) (hL : L.length ≤ maxLen) (hf : Fits L) (hu : eltsAt pairE w u P) (hPl : P.length ≤ maxLen) (hP : FitsP P) :
    Calls Tryz.prog 3 #[v, u] w fun e w' => e = .returned (.bool true) ∧ Below w.heap.size w w' := by
  have HV := Lib.hid hv; have HF := Lib.hid hf; have HP := Lib.hid hP; have HU := Lib.hid hu
  have hL2 : L.length ≤ 9223372036854775807 := by unfold maxLen at hL; omega
  have HL2 := Lib.hid hL2
  have HA := Lib.hid (xawake_any w)
  obtain ⟨a, cap, rfl, _⟩ := hv
  obtain ⟨b, cap2, rfl, _⟩ := hu
  obtain ⟨n, hn⟩ : ∃ n, P.length = n := ⟨_, rfl⟩
  have HN := Lib.hid hn
  have hnm : n ≤ 9223372036854775807 := by unfold maxLen at hPl; omega
  rw [hn] at HU ⊢
  clear hf hL hL2 hP hPl hn
  go_enter Tryz.func3, Tryz.ntmps3
  go_wp2_with fail
  refine HA.out.mono ?_
  rintro e w2 ⟨rfl, hb2⟩
  have HB2 := Lib.hid hb2
  have cG := xgreat_any _ L w2 (HV.out.below hb2 (Nat.le_refl _)) HL2.out
  clear hb2
  go_wp2_with fail
  refine cG.mono ?_
  rintro e w2' ⟨g, rfl, rfl, hg⟩
  clear cG
  cases g with
  | true =>
    go_wp2
    go_ret
    exact ⟨rfl, HB2.out⟩
  | false =>
    obtain ⟨hl60, hb400⟩ := hg rfl
    have HL60 := Lib.hid hl60; have HB400 := Lib.hid hb400
    clear hg hl60 hb400
    by_cases h30 : n ≤ 30
    · have h30d : decide ((30 : Int) < (n : Int)) = false := decide_eq_false (by omega)
      have h30I : ¬ (30 : Int) < (n : Int) := by omega
      have cN := xnew_any _ L w2' (HV.out.below HB2.out (Nat.le_refl _)) HF.out (by have := HL60.out; omega) (by have := HB400.out; omega)
      go_wp2_with fail
      refine cN.mono ?_
      rintro e w10 ⟨hb10, ⟨hno, rfl⟩ | ⟨h0, K, lab, V, M, rfl, hM, hG, hws, hpos, htou, hlab⟩⟩
      · have HW10 : Hid (Below w.heap.size w w10) := Lib.hid (HB2.out.trans (hb10.mono HB2.out.size))
        have cC := refCheck_any _ L w10 (HV.out.below HW10.out (Nat.le_refl _)) (by have := HL60.out; omega) HF.out
        obtain ⟨er, her⟩ : ∃ er, (checkOf L).2 = er := ⟨_, rfl⟩
        obtain ⟨ch, hch⟩ : ∃ er, (checkOf L).1 = er := ⟨_, rfl⟩
        rw [her, hch] at cC
        rw [her] at hno ⊢
        have hne : (er != 0) = true := by simp [hno]
        have hne2 : (er == 0) = false := by simp [hno]
        clear hb10 cN hno her hch
        go_wp2_with fail
        refine cC.mono ?_
        rintro e w11 ⟨rfl, nd, rfl⟩
        have HW11 := Lib.hid (below_drewN' HW10.out nd)
        obtain ⟨wz, hwz⟩ : ∃ wz, w10.drewN nd = wz := ⟨_, rfl⟩
        rw [hwz] at HW11 ⊢
        clear cC hwz
        go_wp2_with fail
        go_ret
        exact ⟨rfl, HW11.out⟩
      · have HO : Hid (XO w lab K 200000 V M w10) := Lib.hid ⟨hM, HB2.out.trans (hb10.mono HB2.out.size), fun i hi => hlab i (by have := HB2.out.size; omega)⟩
        have HIT := Lib.hid (ItM.start hG hws hpos htou HB400.out)
        have HWS := Lib.hid hws
        have cC := refCheck_any _ L w10 (HV.out.below HO.out.bel (Nat.le_refl _)) (by have := HL60.out; omega) HF.out
        obtain ⟨ch, hch⟩ : ∃ er, (checkOf L).1 = er := ⟨_, rfl⟩
        rw [h0, hch] at cC
        clear hM hG hws hpos htou hlab hb10 cN h0 hch
        go_wp2_with fail
        refine cC.mono ?_
        rintro e w11 ⟨rfl, nd, rfl⟩
        have HO11 := Lib.hid (HO.out.below (below_drewN' (Below.refl _ w10) nd))
        obtain ⟨wz, hwz⟩ : ∃ wz, w10.drewN nd = wz := ⟨_, rfl⟩
        rw [hwz] at HO11 ⊢
        clear cC hwz
        have cR := rxnew_any _ L wz (HV.out.below HO11.out.bel (Nat.le_refl _)) (by have := HL60.out; omega) (by have := HB400.out; omega)
        go_wp2_with fail
        refine cR.mono ?_
        rintro e w12 ⟨Kr, vr0, ur0, E0, rfl, hR, hb12⟩
        obtain ⟨base, hbase⟩ : ∃ base, wz.heap.size = base := ⟨_, rfl⟩
        have HT0 : Hid (Twin L w K Kr base 0 lab V M vr0 ur0 E0 w12) := Lib.hid (by
          rw [← hbase]
          exact ⟨HO11.out.below hb12, HIT.out, by rw [HWS.out]; exact hR, fun i hi => HO11.out.ix.fresh (hR.lt hi).1, HO11.out.bel.size⟩)
        obtain ⟨m, hm⟩ : ∃ m, L.length = m := ⟨_, rfl⟩
        have HMM := Lib.hid hm
        have hm60 : m ≤ 60 := by have := HL60.out; omega
        rw [hm] at HV ⊢
        clear hm h30d cR hR hb12 hbase
        go_wp2_with fail
        go_loopw [10] (fun iv wr => TwRel L w K Kr base n iv wr) (fun iv _ => n + 1 - (intOf iv).toNat)
        case atStart => exact ⟨0, lab, V, M, vr0, ur0, E0, rfl, Nat.zero_le _, HT0.out⟩
        case round =>
          obtain ⟨i, lab1, V1, M1, vr, ur, E1, rfl, hi, hT⟩ := hrel
          have HT1 := Lib.hid hT
          clear hT
          have HSN1 := Lib.hid (HT1.out.sane HL60.out)
          by_cases hgo : i < n
          · have hinI : (i : Int) < (n : Int) := by omega
            have hiL : i < P.length := by rw [HN.out]; exact hgo
            obtain ⟨ap, rfl⟩ := pair_some HU.out hiL
            obtain ⟨e0, e1⟩ := pairs_at HU.out HT1.out.x.bel hiL
            obtain ⟨⟨z0, z1⟩, hz⟩ : ∃ z, P[i] = z := ⟨_, rfl⟩
            have HPA : Hid (∀ W, Below w.heap.size w W → W.cell? (ap.add (i * 2)) = some (.int .i64 z0) ∧ W.cell? ⟨(ap.add (i * 2)).block, (ap.add (i * 2)).off + 1, none⟩ = some (.int .i64 z1)) := Lib.hid fun W hW => by
              obtain ⟨e0, e1⟩ := pairs_at HU.out hW hiL
              rw [hz] at e0 e1
              exact ⟨e0, e1⟩
            rw [hz] at e0 e1
            simp only at e0 e1
            have hfz : FitsPr (z0, z1) := by rw [← hz]; exact HP.out _ (List.getElem_mem hiL)
            have hwr : IntKind.i64.wrap (10000 + (i : Int)) = 10000 + (i : Int) := IntWalk.i64_in _ (by omega)
            have HCM := Lib.hid (xmerge_any K _ lab1 V1 M1 z0 z1 (10000 + (i : Int)) _ wr HT1.out.x.ix HT1.out.it.good hfz (by omega) (by have := HT1.out.it.len; omega) (by rw [HT1.out.it.many, HMM.out]; omega) (by rw [HT1.out.it.pos]; have := HT1.out.it.len; have := lenW_nonneg M1.ws; omega) (by have := HT1.out.it.tou; omega) (by omega) (by have := HT1.out.it.keys; omega))
            clear hz hfz hiL hgo
            go_wp2_with fail
            refine HCM.out.mono ?_
            rintro e w7 ⟨T, r7, Y, lab7, V7, M7, rfl, ho7, hY7, hm7, _, hM7, hx7, hws7, hG7, hp7, hsum7, ht7⟩
            have hpl := HT1.out.it.good.plen (z0, z1)
            have HI7 := Lib.hid (HT1.out.it.next (by rw [HMM.out]; exact hm60) hws7 hG7 hp7 hsum7 ht7)
            have HO7 := Lib.hid (HT1.out.x.step (hM7.mono (N' := 200000 + 300000 * (i + 1)) (by have := HT1.out.it.many; have := HMM.out; omega)) hx7)
            obtain ⟨hr7, hf7⟩ := HT1.out.r.step HT1.out.free hx7
            have HR7 := Lib.hid hr7; have HF7 := Lib.hid hf7; have HOW7 := Lib.hid ho7; have HY7 := Lib.hid hY7; have HM7 := Lib.hid hm7; have HWS7 := Lib.hid hws7; have HSUM7 := Lib.hid hsum7
            have cM := rxmerge_any base Kr vr ur E1 M1.ws z0 z1 (10000 + (i : Int)) w7 hr7 HSN1.out (by rw [← hws7]; exact sane_of HO7.out HI7.out HL60.out) (by have := (hr7.lt (.inl rfl)); omega)
            obtain ⟨f0, f1⟩ := HPA.out w7 HO7.out.bel
            clear ho7 hY7 hm7 hM7 hx7 hws7 hG7 hp7 hsum7 ht7 hpl hr7 hf7 e0 e1
            go_wp2_with fail
            refine cM.mono ?_
            rintro e w8 ⟨T8, r8, Y8, v8, E8, rfl, hsum8, ho8, hY8, hm8, hr8, hk8, hnew8⟩
            obtain ⟨rfl, hYl⟩ := same_told HT1.out.it HI7.out HWS7.out HY7.out hY8 HM7.out hm8
            obtain rfl : T8 = T := by rw [← HWS7.out] at hsum8; have := HSUM7.out; omega
            have HT8 : Hid (Twin L w K Kr base (i + 1) lab7 V7 M7 v8 ur E8 w8) := Lib.hid (HT1.out.next HO7.out HI7.out HR7.out HF7.out (by rw [HWS7.out]; exact hr8) hk8 hnew8)
            have hne7 := own_ne HOW7.out HR7.out.box (by decide)
            have ho78 := HOW7.out.kept fun g hg => hk8.block g (HOW7.out.lt g hg).2 (hne7 g hg)
            have HSS := Lib.hid (xsame_true r7 r8 _ w8 ho78.reads ho8.reads hYl)
            obtain ⟨len, hlen⟩ : ∃ len, lenW M7.ws = len := ⟨_, rfl⟩
            have HLEN := Lib.hid hlen
            have hTT : (T8 != T8) = false := by simp
            have hll : (len != len) = false := by simp
            clear cM hsum8 ho8 hY8 hm8 hr8 hk8 hnew8 hne7 ho78 hYl hlen f0 f1
            go_wp2_with fail
            refine HSS.out.mono ?_
            rintro e w9 ⟨rfl, hb9⟩
            have HT9 := Lib.hid (HT8.out.below hb9)
            have cX := xpos_any K _ lab7 V7 M7 w9 HT9.out.x.ix
            rw [HT9.out.it.pos, HLEN.out] at cX
            have cP := rxpos_any base Kr v8 ur E8 M7.ws w9 HT9.out.r (by have := HT9.out.it.len; omega) (by rw [HT9.out.it.many, HMM.out]; omega)
            rw [HLEN.out] at cP
            clear hb9
            go_wp2_with fail
            refine cX.mono ?_
            rintro e w9' ⟨rfl, rfl⟩
            clear cX
            go_wp2_with fail
            refine cP.mono ?_
            rintro e w9'' ⟨rfl, rfl⟩
            clear cP
            go_wp2_with fail
            go_roundw
            case rel => exact ⟨i + 1, lab7, V7, M7, v8, ur, E8, by simp, by omega, HT9.out⟩
            case measure => simp [intOf] <;> omega
          · have hinI : ¬ (i : Int) < (n : Int) := by omega
            obtain rfl : i = n := by omega
            have cC := rxcount_any base Kr vr ur E1 M1.ws wr HT1.out.r HSN1.out
            go_wp2_with fail
            refine cC.mono ?_
            rintro e w20 ⟨Kc, cv, cu, Lc, rfl, hC, hGc, htc, hb20⟩
            obtain rfl : Lc = M1.cnt := cn_ext hGc HT1.out.it.good.cnt fun q => (htc q).trans (HT1.out.it.good.tells q).symm
            have HT2 := Lib.hid (HT1.out.below hb20)
            obtain ⟨ra, rc, rfl, _⟩ := hC.keys.form
            obtain ⟨ua, uc, rfl, _⟩ := hC.vals.form
            rw [keysC_len, valsC_len] at hC
            obtain ⟨c, hc⟩ : ∃ c, M1.cnt.length = c := ⟨_, rfl⟩
            have HCC := Lib.hid hc
            have hc4 : c ≤ 400 := by have := HT2.out.it.keys; omega
            have HROW : Hid (eltsAt pairE w20 (.slice ra c rc) (keysC M1.cnt)) := Lib.hid (by rw [← hc]; exact hC.keys.reads)
            have HVAL : Hid (eltsAt intE w20 (.slice ua c uc) (valsC M1.cnt)) := Lib.hid (by rw [← hc]; exact hC.vals.reads)
            have HSZ : Hid (∀ W, Below w20.heap.size w20 W → W.cell? ⟨Kc, 0, none⟩ = some (.slice ra c rc) ∧ W.cell? ⟨Kc, 1, none⟩ = some (.slice ua c uc)) := Lib.hid fun W hW => by
              have h1 := drcell (hC.below hW).cells
              rw [hc] at h1
              exact ⟨h1.1, h1.2.1⟩
            have cA := xpairs_any K _ lab1 V1 M1 w20.drew HT2.out.x.ix.drew (by omega)
            have HBD : Hid (Below w20.heap.size w20 w20.drew) := Lib.hid (Below.refl _ w20).drew
            have HS0 := Lib.hid (HSZ.out w20 (Below.refl _ _)).1
            have HS1 := Lib.hid (HSZ.out _ HBD.out).1
            clear hC hGc htc hb20 hc cC hgo
            go_wp2_with fail
            go_region_held3 (fun w' => w'.cell? ⟨Kc, 0, none⟩ = some (.slice ra c rc)) (first | exact HS0.out | exact HS1.out | exact HS5.out | exact HS6.out) (first
              | (go_at_call 16
                 refine cA.mono ?_
                 rintro e w5 ⟨r5, rfl, ho5, hb5⟩
                 have HB5 : Hid (Below w20.heap.size w20 w5) := Lib.hid (HBD.out.trans hb5)
                 have HO5 := Lib.hid ho5.reads
                 have HR5 : Hid (eltsAt pairE w5 (.slice ra c rc) (keysC M1.cnt)) := Lib.hid (HROW.out.below HB5.out (Nat.le_refl _))
                 have HS5 := Lib.hid (HSZ.out _ HB5.out).1
                 clear ho5 hb5)
              | (go_at_call 12
                 refine (xsame_true _ _ (keysC M1.cnt) w5 HO5.out HR5.out (by rw [keysC_len, HCC.out]; omega)).mono ?_
                 rintro e w6 ⟨rfl, hb6⟩
                 have HB6 : Hid (Below w20.heap.size w20 w6) := Lib.hid (HB5.out.trans (hb6.mono HB5.out.size))
                 have HS6 := Lib.hid (HSZ.out _ HB6.out).1
                 clear hb6))
            all_goals (
              clear cA
              go_wp2_with fail
              go_loopw [16] (fun kv wr => CkRel w20 c kv wr) (fun kv _ => c + 1 - (intOf kv).toNat)
              case atStart => exact ⟨0, rfl, Nat.zero_le _, HB6.out⟩
              case round =>
                obtain ⟨wo, hwo⟩ : ∃ wo, wo = wr := ⟨_, rfl⟩
                subst hwo
                obtain ⟨k, rfl, hk, hbk⟩ := hrel
                have HBK := Lib.hid hbk
                obtain ⟨k0, k1⟩ := HSZ.out wo hbk
                clear hbk
                by_cases hgk : k < c
                · have hkI : (k : Int) < (c : Int) := by omega
                  have hkC : k < M1.cnt.length := by rw [HCC.out]; exact hgk
                  have hkL : k < (keysC M1.cnt).length := by rw [keysC_len]; exact hkC
                  have hkV : k < (valsC M1.cnt).length := by rw [valsC_len]; exact hkC
                  obtain ⟨ad, rfl⟩ := pair_some HROW.out hkL
                  obtain ⟨ae, ee, hq0⟩ := int_at HVAL.out hkV
                  cases ee
                  clear hq0
                  obtain ⟨⟨⟨z0, z1⟩, d⟩, hz⟩ : ∃ z, M1.cnt[k] = z := ⟨_, rfl⟩
                  have hmem : ((z0, z1), d) ∈ M1.cnt := by rw [← hz]; exact List.getElem_mem hkC
                  have hfz : FitsPr (z0, z1) := (HT2.out.it.good.cnt.fits _ hmem).1
                  have hgd : getC M1.cnt (z0, z1) = d := get_mem HT2.out.it.good.cnt.ris hmem
                  have hkz := keys_at hkC
                  rw [hz] at hkz
                  have hvz : (valsC M1.cnt)[k] = d := by simp [valsC, hz]
                  have HSW : Hid (∀ W, Below w20.heap.size w20 W → W.cell? ⟨Kc, 0, none⟩ = some (.slice (some ad) c rc) ∧ W.cell? ⟨Kc, 1, none⟩ = some (.slice (some ae) c uc) ∧ W.cell? (ad.add (k * 2)) = some (.int .i64 z0) ∧ W.cell? ⟨(ad.add (k * 2)).block, (ad.add (k * 2)).off + 1, none⟩ = some (.int .i64 z1) ∧ W.cell? (ae.add k) = some (.int .i64 d)) := Lib.hid fun W hW => by
                    obtain ⟨y0, y1⟩ := pairs_at HROW.out hW hkL
                    obtain ⟨_, e3, q0⟩ := int_at (HVAL.out.below hW (Nat.le_refl _)) hkV
                    cases e3
                    rw [hkz] at y0 y1
                    rw [hvz] at q0
                    exact ⟨(HSZ.out W hW).1, (HSZ.out W hW).2, y0, y1, q0⟩
                  have HZ1 := Lib.hid (HSW.out wo HBK.out)
                  have HZ2 := Lib.hid (HSW.out wo.drew HBK.out.drew)
                  have cC := xcount_any K _ lab1 V1 M1 z0 z1 wo.drew (HT2.out.below HBK.out).x.ix.drew hfz
                  rw [hgd] at cC
                  have HCT := Lib.hid cC
                  have hdd : (d != d) = false := by simp
                  clear hz hfz hgd hkz hvz hkL hkV hkC hmem hgk cC
                  go_wp2_with fail
                  go_region_held3 (fun W => W.cell? ⟨Kc, 0, none⟩ = some (.slice (some ad) c rc) ∧ W.cell? ⟨Kc, 1, none⟩ = some (.slice (some ae) c uc) ∧ W.cell? (ad.add (k * 2)) = some (.int .i64 z0) ∧ W.cell? ⟨(ad.add (k * 2)).block, (ad.add (k * 2)).off + 1, none⟩ = some (.int .i64 z1) ∧ W.cell? (ae.add k) = some (.int .i64 d)) (first | exact HZ1.out | exact HZ2.out | exact HZ6.out) (first
                    | (go_at_call 17
                       with_reducible refine HCT.out.mono ?_
                       rintro e w6 ⟨rfl, hb7⟩
                       have HB7 : Hid (Below w20.heap.size w20 w6) := Lib.hid (HBK.out.drew.trans (hb7.mono HBK.out.drew.size))
                       have HZ6 := Lib.hid (HSW.out w6 HB7.out)
                       clear hb7))
                  all_goals (
                    go_wp2_with fail
                    go_roundw
                    case rel => exact ⟨k + 1, by simp, by omega, HB7.out⟩
                    case measure => simp [intOf] <;> omega)
                · have hkI : ¬ (k : Int) < (c : Int) := by omega
                  obtain rfl : k = c := by omega
                  have HB8 : Hid (Below w20.heap.size w20 wo) := Lib.hid HBK.out
                  go_wp2_with fail
                  go_loopw [17] (fun kv wr => CkRel w20 m kv wr) (fun kv _ => m + 1 - (intOf kv).toNat)
                  case atStart => exact ⟨0, rfl, Nat.zero_le _, HB8.out⟩
                  case round =>
                    obtain ⟨wp, hwp⟩ : ∃ wp, wp = wr := ⟨_, rfl⟩
                    subst hwp
                    obtain ⟨j, rfl, hj, hbj⟩ := hrel
                    have HBJ := Lib.hid hbj
                    clear hbj k0 k1
                    by_cases hgj : j < m
                    · have hjI : (j : Int) < (m : Int) := by omega
                      have hjL : j < L.length := by rw [HMM.out]; exact hgj
                      obtain ⟨X, hX⟩ := HT2.out.it.word hjL
                      obtain ⟨tt, htt⟩ : ∃ tt, L[j].2 = tt := ⟨_, rfl⟩
                      rw [htt] at hX
                      clear htt
                      have HX := Lib.hid hX
                      obtain ⟨mm, hmm⟩ : ∃ mm, M1.ws.length = mm := ⟨_, rfl⟩
                      have HMW := Lib.hid hmm
                      obtain ⟨l, hl⟩ : ∃ l, X.length = l := ⟨_, rfl⟩
                      have HXL := Lib.hid hl
                      have hl4 : l ≤ 1000 := by rw [← hl]; exact HSN1.out.few _ (List.mem_of_getElem? hX)
                      have hjm : j < mm := by rw [← hmm]; exact (List.getElem?_eq_some_iff.1 hX).1
                      obtain ⟨gv, cw, gu, cx, a2, c2, ev, eu, x0, _, ho, _, _⟩ := HT2.out.r.word hX
                      rw [hmm] at ev eu
                      rw [hl] at x0 ho
                      have HWD : Hid (∀ W, Below w20.heap.size w20 W → (W.cell? ⟨Kr, 0, none⟩ = some (.slice (some ⟨gv, 0, none⟩) mm cw) ∧ W.cell? ⟨gv, j, none⟩ = some (.slice a2 l c2)) ∧ eltsAt intE W (.slice a2 l c2) X) := Lib.hid fun W hW => by
                        obtain ⟨_, _, _, _, _, _, e1, e2, y0, _, _, g1, _⟩ := HT2.out.r.word HX.out
                        have hkk := (HT2.out.r.below hW).cells.1
                        rw [ev] at e1 hkk
                        cases e1
                        refine ⟨⟨hkk, ?_⟩, ho.reads.below hW (Nat.le_refl _)⟩
                        exact (hW.cell g1).trans x0
                      have HZ1 := Lib.hid (HWD.out wp HBJ.out).1
                      have HZ2 := Lib.hid (HWD.out wp.drew HBJ.out.drew).1
                      have cS := Lib.hid (xsyms_any K _ lab1 V1 M1 j X _ wp.drew (HT2.out.below HBJ.out).x.ix.drew hX)
                      have hjmI : (j : Int) < (mm : Int) := by omega
                      clear hX hmm hl ev eu x0 ho hjL
                      go_wp2_with fail
                      go_region_held3 (fun W => W.cell? ⟨Kr, 0, none⟩ = some (.slice (some ⟨gv, 0, none⟩) mm cw) ∧ W.cell? ⟨gv, j, none⟩ = some (.slice a2 l c2)) (first | exact HZ1.out | exact HZ2.out | exact HZ6.out | exact HZ7.out) (first
                        | (go_at_call 19
                           refine cS.out.mono ?_
                           rintro e w6 ⟨r6, rfl, ho6, hb6⟩
                           have HB7 : Hid (Below w20.heap.size w20 w6) := Lib.hid (HBJ.out.drew.trans (hb6.mono HBJ.out.drew.size))
                           have HO6 := Lib.hid ho6.reads
                           have HZ6 := Lib.hid (HWD.out w6 HB7.out).1
                           clear hb6 ho6)
                        | (go_at_call 18
                           refine (ints_any _ _ X w6 HO6.out (HWD.out w6 HB7.out).2 (by rw [HXL.out]; omega)).mono ?_
                           rintro e w7 ⟨rfl, nq, rfl⟩
                           have HB8 : Hid (Below w20.heap.size w20 (w6.drewN nq)) := Lib.hid (below_drewN' HB7.out nq)
                           have HZ7 := Lib.hid (HWD.out _ HB8.out).1))
                      all_goals (
                        obtain ⟨wq, hwq⟩ : ∃ wq, w6.drewN nq = wq := ⟨_, rfl⟩
                        rw [hwq] at HB8 ⊢
                        go_wp2_with fail
                        go_roundw
                        case rel => exact ⟨j + 1, by simp, by omega, HB8.out⟩
                        case measure => simp [intOf] <;> omega)
                    · have hjI : ¬ (j : Int) < (m : Int) := by omega
                      obtain rfl : j = m := by omega
                      have HT3 := Lib.hid (HT2.out.below HBJ.out)
                      have c1 := xsyms_out K _ lab1 V1 M1 (j : Int) wp HT3.out.x.ix (.inr (by rw [HT3.out.it.many, HMM.out]; exact Int.le_refl _))
                      have c2 := xsyms_out K _ lab1 V1 M1 (-1) wp HT3.out.x.ix (.inl (by decide))
                      have HBW : Hid (Below w.heap.size w wp) := Lib.hid HT3.out.x.bel
                      go_wp2_with fail
                      refine c1.mono ?_
                      rintro e wp2 ⟨rfl, rfl⟩
                      clear c1
                      go_wp2_with fail
                      refine c2.mono ?_
                      rintro e wp3 ⟨rfl, rfl⟩
                      clear c2
                      go_wp2
                      go_ret
                      exact ⟨rfl, HBW.out⟩)
    · have h30d : decide ((30 : Int) < (n : Int)) = true := decide_eq_true (by omega)
      have h30I : (30 : Int) < (n : Int) := by omega
      go_wp2
      go_ret
      exact ⟨rfl, HB2.out⟩
end Go.Proofs.YtejcemmhhpbchaaGreat
