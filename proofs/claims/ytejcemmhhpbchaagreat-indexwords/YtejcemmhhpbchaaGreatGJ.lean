/- Texts in one: RIxM, RIxW. -/
import Derived.Test.YtejcemmhhpbchaaGreatGI
/- The document's index merged, walked. -/
namespace Go.Proofs.YtejcemmhhpbchaaGreat
open Go.RowKit Go.Maps

/-- The first loop: i words are merged. -/
def RM1 (w : World) (base : Nat) (r : Value) (ws : List Wd) (p : Int × Int) (s : Int) (tv iv : Value) (wr : World) : Prop :=
  ∃ (i : Nat) (T : Int) (E : List Hd), iv = .int .i64 (i : Int) ∧ i ≤ ws.length ∧ tv = .int .i64 T ∧ T + lenW (mergeUpto p s ws i) = lenW ws ∧ 0 ≤ T ∧ RRows wr base r E (mergeUpto p s ws i) ∧ Below w.heap.size w wr ∧ ∀ (j : Nat) e, E[j]? = some e → j < i → ∀ g, (hdV e).ownBlock = some g → w.heap.size ≤ g
/-- The second one: of i pairs that were. -/
def RM2 (wS : World) (Ko : Nat) (L0 L1 : Cn) (iv : Value) (wr : World) : Prop :=
  ∃ (i : Nat) (ov ou : Value) (Lo : Cn), iv = .int .i64 (i : Int) ∧ i ≤ L0.length ∧ Rct wr wS.heap.size Ko ov ou Lo ∧ Flag Lo (fun q => q ∈ (keysC L0).take i ∧ getC L1 q ≠ getC L0 q) ∧ Lo.length ≤ i ∧ Below wS.heap.size wS wr
/-- The third one: of i pairs that are. -/
def RM3 (wS : World) (Ko : Nat) (L0 L1 : Cn) (iv : Value) (wr : World) : Prop :=
  ∃ (i : Nat) (ov ou : Value) (Lo : Cn), iv = .int .i64 (i : Int) ∧ i ≤ L1.length ∧ Rct wr wS.heap.size Ko ov ou Lo ∧ Flag Lo (fun q => (q ∈ keysC L0 ∧ getC L1 q ≠ getC L0 q) ∨ (q ∈ (keysC L1).take i ∧ getC L0 q = 0)) ∧ Lo.length ≤ L0.length + i ∧ Below wS.heap.size wS wr
set_option maxRecDepth 100000 in
theorem sown_none (w : World) : ownE sliceE (w.alloc (.cells #[] 43)) w.heap.size (.slice (some ⟨w.heap.size, 0, none⟩) 0 0) [] :=
  ⟨rfl, .inr ⟨w.heap.size, 0, #[], rfl, Nat.le_refl _, heap_alloc_new w _, Nat.le_refl _, by unfold maxLen; omega, rfl, rfl⟩⟩
set_option maxRecDepth 100000 in
theorem upto_lenW {p : Int × Int} {s : Int} {ws : List Wd} {i : Nat} {X : List Int} {t : Int} (h : ws[i]? = some (X, t)) : (timesL p X : Int) + lenW (mergeUpto p s ws (i + 1)) = lenW (mergeUpto p s ws i) := by
  obtain ⟨h1, h2⟩ := upto_at (p := p) (s := s) h
  have h3 := pmerge_len (p := p) (s := s) X
  rw [h2]
  unfold lenW
  rw [sumW_set _ _ h1]
  simp only
  omega
set_option maxRecDepth 100000 in
theorem keys_at {L : Cn} {k : Nat} (hk : k < L.length) : (keysC L)[k]'(by rw [keysC_len]; exact hk) = L[k].1 := by simp [keysC]
set_option maxRecDepth 100000 in
theorem take_key {L : Cn} {k : Nat} (hk : k < L.length) (q : Int × Int) : q ∈ (keysC L).take (k + 1) ↔ q ∈ (keysC L).take k ∨ q = L[k].1 := by
  rw [List.take_succ_eq_append_getElem (by rw [keysC_len]; exact hk), keys_at hk]; simp
set_option maxRecDepth 100000 in
theorem take_fresh {L : Cn} (hg : GoodC L) {k : Nat} (hk : k < L.length) : L[k].1 ∉ (keysC L).take k := fun hm => by
  obtain ⟨i, hi, e⟩ := List.mem_iff_getElem.1 hm
  rw [List.length_take] at hi
  rw [List.getElem_take] at e
  have h1 := List.pairwise_iff_getElem.1 (ris_keys hg.ris) i k (by simp; omega) (by simp; exact hk) (by omega)
  have e2 : (keysC L)[k]'(by rw [keysC_len]; exact hk) = L[k].1 := keys_at hk
  have h2 : pb ((keysC L)[i]'(by rw [keysC_len]; omega)) ((keysC L)[k]'(by rw [keysC_len]; exact hk)) := h1
  rw [e, e2] at h2
  exact pb_irrefl _ h2
set_option maxRecDepth 100000 in
theorem own_ne {α : Type} {R : Elt α} {w : World} {b K : Nat} {x : Value} {L : List α} (h : ownE R w b x L) {cs : Array Value} {t : TypeId} (hK : w.heap[K]? = some (.cells cs t (0, 0))) (ht : R.ty ≠ t) : ∀ g, x.ownBlock = some g → g ≠ K := fun g hg e => by
  subst e
  obtain ⟨cs2, h2⟩ := h.block g hg
  rw [hK] at h2
  have := congrArg (fun o => match o with | some (Obj.cells _ t _) => t | _ => 0) h2
  exact ht this.symm
set_option maxRecDepth 100000 in
/-- The new rows laid into the index. -/
theorem RRows.done {w wA : World} {base K : Nat} {v u r : Value} {E E1 : List Hd} {ws : List Wd} {p : Int × Int} {s : Int} (h : RIx w base K v u E ws) (hb : Below w.heap.size w wA) (hr : RRows wA base r E1 (mergeWs p s ws)) : RIx (wA.setCell ⟨K, 0, none⟩ r) base K r u E1 (mergeWs p s ws) := by
  have hA := h.below hb
  have hset : ∀ g, g ≠ K → (wA.setCell ⟨K, 0, none⟩ r).heap[g]? = wA.heap[g]? := fun g hg => Below.heap_setCell _ _ _ _ hg
  refine ⟨?_, h.ge, hr.row.kept fun g hg => hset g (own_ne hr.row hA.box (by decide) g hg), ?_, hr.len, fun j X t hj => ?_⟩
  · rw [heap_setCell_at hA.box]; rfl
  · have e : (mergeWs p s ws).map (·.2) = ws.map (·.2) := by unfold mergeWs; rw [List.map_map]; rfl
    rw [e]
    exact hA.counts.kept fun g hg => hset g (own_ne hA.counts hA.box (by decide) g hg)
  · obtain ⟨e, h1, h2⟩ := hr.each j X t hj
    exact ⟨e, h1, h2.kept fun g hg => hset g (own_ne h2 hA.box (by decide) g hg)⟩
set_option maxRecDepth 100000 in
set_option maxHeartbeats 16000000 in
theorem rxmerge_any (base K : Nat) (v u : Value) (E : List Hd) (ws : List Wd) (p q s : Int) (w : World) (h : RIx w base K v u E ws) (hs : SaneW ws) (hs2 : SaneW (mergeWs (p, q) s ws)) (hbw : base ≤ w.heap.size) :
    Calls Tryz.prog 11 #[.pointer (some ⟨K, 0, none⟩), .agg #[.int .i64 p, .int .i64 q], .int .i64 s] w fun e w' => RMrgRet base K v u E ws (p, q) s w e w' := by
  have H := Lib.hid h; have HS := Lib.hid hs; have HS2 := Lib.hid hs2; have HBW := Lib.hid hbw
  obtain ⟨n, hn⟩ : ∃ n, ws.length = n := ⟨_, rfl⟩
  have HN := Lib.hid hn
  have hn1 : n ≤ 1000 := by rw [← hn]; exact hs.many
  obtain ⟨bx, hbx⟩ : ∃ bx, w.heap.size = bx := ⟨_, rfl⟩
  have HBX := Lib.hid hbx
  obtain ⟨w1, hw1⟩ : ∃ w1, w1 = w.alloc (.cells #[.int .i64 p, .int .i64 q] 37) := ⟨_, rfl⟩
  have HB1 : Hid (Below w.heap.size w w1) := Lib.hid (by rw [hw1]; exact (Below.refl _ w).alloc (Nat.le_refl _) _)
  have HX1 : Hid (bx < w1.heap.size ∧ w1.cell? ⟨bx, 0, none⟩ = some (.int .i64 p) ∧ w1.cell? ⟨bx, 1, none⟩ = some (.int .i64 q)) := Lib.hid (by rw [hw1, ← hbx]; simp)
  have cC := rxcount_any base K v u E ws w1 (h.below HB1.out) hs
  obtain ⟨av, cv0, rfl⟩ := h.lens
  rw [hn] at H
  have hw1' := hw1.symm
  clear h hs hs2 hw1 hn hbw
  go_enter Tryz.func11, Tryz.ntmps11
  go_wp2_with fail
  clear hw1'
  refine cC.mono ?_
  rintro e w2 ⟨Kw, wv, wu, L0, rfl, hR0, hG0, hT0, hb2⟩
  have HB2 : Hid (Below w.heap.size w w2) := Lib.hid (HB1.out.trans (hb2.mono HB1.out.size))
  have HX2 : Hid (Below w1.heap.size w1 w2) := Lib.hid hb2
  have HR0 := Lib.hid hR0; have HG0 := Lib.hid hG0; have HT0 := Lib.hid hT0
  obtain ⟨w3, hw3⟩ : ∃ w3, w3 = w2.alloc (.cells #[] 43) := ⟨_, rfl⟩
  have B3 : Below w2.heap.size w2 w3 := by rw [hw3]; exact (Below.refl _ w2).alloc (Nat.le_refl _) _
  have HB3 : Hid (Below w.heap.size w w3) := Lib.hid (HB2.out.trans (B3.mono HB2.out.size))
  have HBB3 := Lib.hid B3
  have HO3 : Hid (ownE sliceE w3 w2.heap.size (.slice (some ⟨w2.heap.size, 0, none⟩) 0 0) []) := Lib.hid (by rw [hw3]; exact sown_none w2)
  have k0 := (H.out.below HB3.out).cells.1
  have HE3 : Hid (eltsAt sliceE w3 (.slice av n cv0) E) := Lib.hid (H.out.below HB3.out).words.reads
  have HNIL : Hid (nilNone (.slice av n cv0)) := Lib.hid H.out.words.nilNone
  have hEl : E.length = n := by rw [H.out.len, HN.out]
  have HEL := Lib.hid hEl
  have hw3' := hw3.symm
  clear cC hR0 hG0 hT0 hb2 B3 hw3 hEl
  go_wp2_with (at_builtin; refine wpList_append_elts sliceE rfl _ _ rfl w2.heap.size _ _ [] E rfl rfl HO3.out HE3.out HNIL.out (by rw [HEL.out]; simp; omega) (by have := HBB3.out.size; omega) ?_; intro r4 w4 ho4 hg4 hr4; have HO4 : Hid (ownE sliceE w4 w2.heap.size r4 E) := Lib.hid ho4; have HB4 : Hid (Below w2.heap.size w2 w4) := Lib.hid (HBB3.out.grown hg4 HBB3.out.size (fun g e => by cases e; exact Nat.le_refl _)); clear ho4 hg4 hr4)
  obtain ⟨a4, c4, rfl, _⟩ := HO4.out.form
  have HB4w : Hid (Below w.heap.size w w4) := Lib.hid (HB2.out.trans (HB4.out.mono HB2.out.size))
  have H4 : Hid (RM1 w2 base (.slice a4 n c4) ws (p, q) s (.int .i64 0) (.int .i64 0) w4) := Lib.hid (by
    have h1 := H.out.below HB4w.out
    refine ⟨0, 0, E, rfl, Nat.zero_le _, rfl, by rw [upto_zero]; omega, Int.le_refl _, ⟨?_, by rw [upto_zero, HN.out]; exact HEL.out, fun j X t hj => h1.each j X t (by rw [upto_zero] at hj; exact hj)⟩, HB4.out, fun j e _ hj => by omega⟩
    have h2 := HO4.out
    rw [HEL.out] at h2
    exact h2.mono (by have := HB2.out.size; have := HBW.out; omega))
  rw [HEL.out]
  obtain ⟨a0, c0, rfl, _⟩ := HR0.out.keys.form
  obtain ⟨a1, c1, rfl, _⟩ := HR0.out.vals.form
  have HL0 : Hid (L0.length ≤ 400) := Lib.hid (by have := cn_len HG0.out HS.out.pos HT0.out; have := HS.out.len; omega)
  rw [keysC_len, valsC_len] at HR0
  clear hw3' k0
  go_loopw [9, 11] (fun tv iv wr => RM1 w2 base (.slice a4 n c4) ws (p, q) s tv iv wr) (fun _ iv _ => n + 1 - (intOf iv).toNat)
  case atStart => exact H4.out
  case round =>
    obtain ⟨i, T, E1, rfl, hi, rfl, hsum, hT0, hRR, hBw, hnew⟩ := hrel
    rw [HN.out] at hi
    have HSUM := Lib.hid hsum; have HRR := Lib.hid hRR; have HBw := Lib.hid hBw; have HNEW := Lib.hid hnew; have HTT := Lib.hid hT0
    clear hsum hRR hBw hnew H4
    by_cases hgo : i < n
    · have hiI : (i : Int) < (n : Int) := by omega
      obtain ⟨X, t, hw⟩ : ∃ X t, ws[i]? = some (X, t) := ⟨_, _, List.getElem?_eq_getElem (by rw [HN.out]; exact hgo)⟩
      obtain ⟨hu1, hu2⟩ := upto_at (p := (p, q)) (s := s) hw
      obtain ⟨e, he, ho⟩ := HRR.out.each i X t hu1
      have hrow := HRR.out.row
      have hEl1 : E1.length = n := by rw [HRR.out.len, upto_len _ _ _ _ (by rw [HN.out]; omega), HN.out]
      obtain ⟨g4, rfl, _⟩ := ownE_some hrow (by omega)
      have x0 := hd_cell hrow he
      obtain ⟨ea, em, ec⟩ := e
      obtain ⟨a, c, ee, _⟩ := ho.form
      simp only [hdV, Value.slice.injEq] at ee
      obtain ⟨rfl, rfl, rfl⟩ := ee
      simp only [hdV] at x0 ho
      have hX1 : X.length ≤ 1000 := HS.out.few _ (List.mem_of_getElem? hw)
      have HCM := Lib.hid (rsmerge_any (.slice ea X.length ec) X p q s wr.drew (ho.reads.drew 1) hX1)
      obtain ⟨b0, b1⟩ : wr.cell? ⟨bx, 0, none⟩ = some (.int .i64 p) ∧ wr.cell? ⟨bx, 1, none⟩ = some (.int .i64 q) := by
        have hz1 := HX2.out.size
        exact ⟨((HBw.out.cell (show bx < w2.heap.size by have := HX1.out.1; omega)).trans (HX2.out.cell HX1.out.1)).trans HX1.out.2.1, ((HBw.out.cell (show bx < w2.heap.size by have := HX1.out.1; omega)).trans (HX2.out.cell HX1.out.1)).trans HX1.out.2.2⟩
      obtain ⟨tm, htm⟩ : ∃ tm : Int, (timesL (p, q) X : Int) = tm := ⟨_, rfl⟩
      rw [htm] at HCM
      have hsum2 := upto_lenW (p := (p, q)) (s := s) hw
      rw [htm] at hsum2
      have HSUM2 := Lib.hid hsum2
      have htm0 : 0 ≤ tm := by omega
      have hTb : T + tm ≤ 400 := by
        have h1 := HSUM.out; have h2 := lenW_nonneg (mergeUpto (p, q) s ws (i + 1)); have h3 := HS.out.len
        omega
      have hwr : IntKind.i64.wrap (T + tm) = T + tm := IntWalk.i64_in _ (by omega)
      have HU1 := Lib.hid hu1; have HU2 := Lib.hid hu2; have HE1 := Lib.hid hEl1
      have hg4w : w2.heap.size ≤ g4 := (HO4.out.lt g4 rfl).1
      clear hw hu1 hu2 he ho hrow hX1 htm hsum2 hEl1
      go_wp2_with fail
      go_region_law
        (first | (go_simp; go_at_call 35; refine HCM.out.mono ?_; rintro e w6 ⟨r, rfl, ho6, hb6⟩; obtain ⟨ra, rc, rfl, _⟩ := ho6.form; have hb6' : Below wr.heap.size wr w6 := ⟨hb6.os, hb6.tape, hb6.output, hb6.size, hb6.block⟩; have HR6 := Lib.hid (HRR.out.below hb6'); have HO6 : Hid (ownE intE w6 wr.heap.size (.slice ra (mergeL (p, q) s X).length rc) (mergeL (p, q) s X)) := Lib.hid ho6; obtain ⟨⟨u0, z0⟩, zf⟩ := put_cell rfl HR6.out.row (j := i) (by rw [HE1.out]; exact hgo); have HB6 := Lib.hid (HBw.out.trans (hb6'.mono HBw.out.size)); clear ho6 hb6 hb6'))
      all_goals (
        go_wp2_with fail
        go_roundw
        case rel =>
          refine ⟨i + 1, T + tm, E1.set i (ra, (mergeL (p, q) s X).length, rc), by simp, by rw [HN.out]; omega, rfl, by have := HSUM.out; have := HSUM2.out; omega, by have := HTT.out; omega, ?_, HB6.out.setCell hg4w _, fun j e he hj => ?_⟩
          · rw [HU2.out]
            exact HR6.out.put HU1.out (HO6.out.mono (by have := HBw.out.size; have := HB2.out.size; have := HBW.out; omega))
          · rw [List.getElem?_set] at he
            by_cases ej : i = j
            · rw [if_pos ej, if_pos (by rw [HE1.out]; exact hgo)] at he
              cases he
              intro g hg
              have := (HO6.out.lt g hg).1
              have := HBw.out.size
              omega
            · rw [if_neg ej] at he
              exact HNEW.out j e he (by omega)
        case measure => simp [intOf] <;> omega)
    · have hiI : ¬ (i : Int) < (n : Int) := by omega
      obtain rfl : i = n := by omega
      have hupto : mergeUpto (p, q) s ws i = mergeWs (p, q) s ws := by rw [← HN.out]; exact upto_all _ _ _
      have HBA : Hid (Below w.heap.size w wr) := Lib.hid (HB2.out.trans (HBw.out.mono HB2.out.size))
      have hRR := HRR.out
      rw [hupto] at hRR
      have HDONE := Lib.hid (hRR.done H.out HBA.out)
      have HSUMF : Hid (T + lenW (mergeWs (p, q) s ws) = lenW ws) := Lib.hid (by rw [← hupto]; exact HSUM.out)
      have kA := (H.out.below HBA.out).cells
      obtain ⟨k0, _, f0, _⟩ := kA
      obtain ⟨w5, hw5⟩ : ∃ w5, w5 = wr.setCell ⟨K, 0, none⟩ (.slice a4 i c4) := ⟨_, rfl⟩
      have hKw := (H.out.lt (.inl rfl)).2
      have HKEEP : Hid (Kept (fun j => j = K) w w5) := Lib.hid (by rw [hw5]; exact (Kept.of_below HBA.out (Nat.le_refl _)).setCell _ _ fun _ => rfl)
      have HD5 : Hid (RIx w5 base K (.slice a4 i c4) u E1 (mergeWs (p, q) s ws)) := Lib.hid (by rw [hw5]; exact HDONE.out)
      have hR5 : Rct w5 w1.heap.size Kw (.slice a0 L0.length c0) (.slice a1 L0.length c1) L0 := by
        have h1 := HR0.out.below HBw.out
        rw [hw5]
        refine h1.kept fun g _ hm => Below.heap_setCell _ _ _ _ (fun e => ?_)
        have e2 : g = K := e
        have := (h1.lt g hm).1
        have := HB1.out.size
        omega
      have HR5 := Lib.hid hR5
      have cC := rxcount_any base K _ u E1 _ w5 HD5.out HS2.out
      have hw5' := hw5.symm
      clear hupto hRR hw5 hR5 hKw
      go_wp2_with fail
      clear hw5' k0 f0
      refine cC.mono ?_
      rintro e w6 ⟨Kn, nv, nu, L1, rfl, hR1, hG1, hT1, hb6⟩
      have HR1 := Lib.hid hR1; have HG1 := Lib.hid hG1; have HT1 := Lib.hid hT1; have HB6 := Lib.hid hb6
      have HR06 := Lib.hid (HR5.out.below hb6)
      have HL1 : Hid (L1.length ≤ 400) := Lib.hid (by have := cn_len hG1 HS2.out.pos hT1; have := HS2.out.len; omega)
      obtain ⟨d0, n0, rfl, _⟩ := hR1.keys.form
      obtain ⟨d1, n1, rfl, _⟩ := hR1.vals.form
      rw [keysC_len, valsC_len] at HR1
      obtain ⟨Ko, hKo⟩ : ∃ Ko, w6.heap.size = Ko := ⟨_, rfl⟩
      have HKO := Lib.hid hKo
      obtain ⟨w7, hw7⟩ : ∃ w7, w7 = w6.alloc (.cells #[.slice none 0 0, .slice none 0 0] 45) := ⟨_, rfl⟩
      have H7 : Hid (RM2 w6 Ko L0 L1 (.int .i64 0) w7) := Lib.hid (by
        have h1 := rnew_rct w6
        rw [← hw7, hKo] at h1
        exact ⟨0, _, _, [], rfl, Nat.zero_le _, by rw [hKo]; exact h1, Flag.nil.iff fun q2 => by simp, Nat.le_refl _, by rw [hw7]; exact (Below.refl _ w6).alloc (Nat.le_refl _) _⟩)
      have hw7' := hw7.symm
      obtain ⟨m0, hm0⟩ : ∃ m0, L0.length = m0 := ⟨_, rfl⟩
      obtain ⟨m1, hm1⟩ : ∃ m1, L1.length = m1 := ⟨_, rfl⟩
      have HM0 := Lib.hid hm0; have HM1 := Lib.hid hm1
      have hm04 : m0 ≤ 400 := by have := HL0.out; omega
      have hm14 : m1 ≤ 400 := by have := HL1.out; omega
      rw [hm0] at HR06
      rw [hm1] at HR1
      clear cC hR1 hG1 hT1 hb6 hw7 hm0 hm1
      go_wp2_with fail
      clear hw7' hKo
      go_loopw [15] (fun iv wr => RM2 w6 Ko L0 L1 iv wr) (fun iv _ => m0 + 1 - (intOf iv).toNat)
      case atStart => exact H7.out
      case round =>
        obtain ⟨k, ov, ou, Lo, rfl, hk, hO, hF, hlen, hB⟩ := hrel
        rw [HM0.out] at hk
        have HO := Lib.hid hO; have HF := Lib.hid hF; have HLEN := Lib.hid hlen; have HB := Lib.hid hB
        clear hO hF hlen hB H7
        have l0 := (HR06.out.lt Kw (.inl rfl)).2
        have l0' := (HR1.out.lt Kn (.inl rfl)).2
        obtain ⟨cw0, cw1, _, _⟩ := drcell HR06.out.cells
        have HL0K : Hid (Kw < w6.heap.size) := Lib.hid l0
        by_cases hgk : k < m0
        · have hkI : (k : Int) < (m0 : Int) := by omega
          have hkL : k < L0.length := by rw [HM0.out]; exact hgk
          obtain ⟨g1, cc1, g2, cc2, e1, e2, x0, x1, x2⟩ := HR06.out.at hkL
          rw [HM0.out] at e1 e2
          simp only [Value.slice.injEq] at e1 e2
          obtain ⟨rfl, _, rfl⟩ := e1
          obtain ⟨rfl, _, rfl⟩ := e2
          have l1 := (HR06.out.lt g1 (.inr (.inl rfl))).2
          have l2 := (HR06.out.lt g2 (.inr (.inr rfl))).2
          obtain ⟨z0, z1, zc, hz⟩ : ∃ z0 z1 zc, L0[k] = ((z0, z1), zc) := ⟨_, _, _, rfl⟩
          rw [hz] at x0 x1 x2
          simp only at x0 x1 x2
          have HSW : Hid (∀ W, Below w6.heap.size w6 W → W.cell? ⟨Kw, 0, none⟩ = some (.slice (some ⟨g1, 0, none⟩) m0 c0) ∧ W.cell? ⟨Kw, 1, none⟩ = some (.slice (some ⟨g2, 0, none⟩) m0 c1) ∧ W.cell? ⟨g1, k * 2, none⟩ = some (.int .i64 z0) ∧ W.cell? ⟨g1, k * 2 + 1, none⟩ = some (.int .i64 z1) ∧ W.cell? ⟨g2, k, none⟩ = some (.int .i64 zc)) := Lib.hid fun W hW =>
            ⟨(hW.cell l0).trans cw0, (hW.cell l0).trans cw1, (hW.cell l1).trans x0, (hW.cell l1).trans x1, (hW.cell l2).trans x2⟩
          have hfz : FitsPr (z0, z1) := by have := (HG0.out.fits _ (List.getElem_mem hkL)).1; rw [hz] at this; exact this
          have hgz : getC L0 (z0, z1) = zc := get_mem HG0.out.ris (by rw [← hz]; exact List.getElem_mem hkL)
          have htk := take_key hkL
          have hfr := take_fresh HG0.out hkL
          rw [hz] at htk hfr
          simp only at htk hfr
          have HTK := Lib.hid htk; have HFR := Lib.hid hfr; have HGZ := Lib.hid hgz; have HFZ := Lib.hid hfz
          obtain ⟨cv, hcv⟩ : ∃ cv, getC L1 (z0, z1) = cv := ⟨_, rfl⟩
          have HCV := Lib.hid hcv
          have HGT : Hid (Calls Tryz.prog 36 #[.pointer (some ⟨Kn, 0, none⟩), .agg #[.int .i64 z0, .int .i64 z1]] wr.drew fun e w' => e = .returned (.int .i64 cv) ∧ Below wr.heap.size wr w') := Lib.hid (by
            refine (rget_any w5.heap.size Kn _ _ L1 z0 z1 wr.drew (HR1.out.below HB.out.drew) (by have := HL1.out; omega)).mono ?_
            rintro e w' ⟨rfl, nd, rfl⟩
            exact ⟨by rw [hcv], below_drewN' (((Below.refl wr.heap.size wr).drew).alloc (Nat.le_refl _) _) nd⟩)
          have HZ1 := Lib.hid (HSW.out wr HB.out)
          have HZ2 := Lib.hid (HSW.out wr.drew HB.out.drew)
          obtain ⟨y0, y1, y2, y3, y4⟩ := HZ1.out
          clear x0 x1 x2 hz hkL htk hfr hgz hfz hcv l0 l0' l1 l2 cw0 cw1
          by_cases hne : cv = zc
          · subst hne
            have hnb : (cv != cv) = false := by simp
            go_wp2_with fail
            go_region_held3 (fun W => W.cell? ⟨Kw, 0, none⟩ = some (.slice (some ⟨g1, 0, none⟩) m0 c0) ∧ W.cell? ⟨Kw, 1, none⟩ = some (.slice (some ⟨g2, 0, none⟩) m0 c1) ∧ W.cell? ⟨g1, k * 2, none⟩ = some (.int .i64 z0) ∧ W.cell? ⟨g1, k * 2 + 1, none⟩ = some (.int .i64 z1) ∧ W.cell? ⟨g2, k, none⟩ = some (.int .i64 cv)) (first | exact HZ1.out | exact HZ2.out | exact HZ8.out) (first
              | (go_at_call 36
                 with_reducible refine HGT.out.mono ?_
                 rintro e w8 ⟨rfl, hb8⟩
                 have HB8 := Lib.hid (HB.out.trans (hb8.mono HB.out.size))
                 have HZ8 := Lib.hid (HSW.out w8 HB8.out)
                 have HO8 := Lib.hid (HO.out.below hb8)
                 clear hb8))
            all_goals (
              go_wp2_with fail
              go_roundw
              case rel =>
                refine ⟨k + 1, ov, ou, Lo, by simp, by rw [HM0.out]; omega, HO8.out, HF.out.iff fun q2 => ?_, by have := HLEN.out; omega, HB8.out⟩
                rw [HTK.out]
                constructor
                · rintro ⟨a, b⟩; exact ⟨.inl a, b⟩
                · rintro ⟨a | a, b⟩
                  · exact ⟨a, b⟩
                  · rw [a, HCV.out, HGZ.out] at b; exact absurd rfl b
              case measure => simp [intOf] <;> omega)
          · have hnb : (cv != zc) = true := by simp [hne]
            have HNE := Lib.hid hne
            clear hne
            obtain ⟨Mo, hadd, hfl, hml⟩ := HF.out.add HFZ.out (fun a => HFR.out a.1)
            have HFL := Lib.hid hfl; have HML := Lib.hid hml; have HADD := Lib.hid hadd
            clear hadd hfl hml
            go_wp2_with fail
            go_region_held3 (fun W => W.cell? ⟨Kw, 0, none⟩ = some (.slice (some ⟨g1, 0, none⟩) m0 c0) ∧ W.cell? ⟨Kw, 1, none⟩ = some (.slice (some ⟨g2, 0, none⟩) m0 c1) ∧ W.cell? ⟨g1, k * 2, none⟩ = some (.int .i64 z0) ∧ W.cell? ⟨g1, k * 2 + 1, none⟩ = some (.int .i64 z1) ∧ W.cell? ⟨g2, k, none⟩ = some (.int .i64 zc)) (first | exact HZ1.out | exact HZ2.out | exact HZ8.out) (first
              | (go_at_call 36
                 with_reducible refine HGT.out.mono ?_
                 rintro e w8 ⟨rfl, hb8⟩
                 have HB8 := Lib.hid (HB.out.trans (hb8.mono HB.out.size))
                 have HZ8 := Lib.hid (HSW.out w8 HB8.out)
                 have HO8 := Lib.hid (HO.out.below hb8)
                 clear hb8))
            all_goals (
              clear y0 y1 y2 y3 y4
              obtain ⟨y0, y1, y2, y3, y4⟩ := HZ8.out
              have cAd := dradd_any w6.heap.size Ko ov ou Lo z0 z1 1 1 w8 HO8.out HF.out.1 (by unfold FitsZ; omega) (by unfold FitsZ; omega) (by have := HLEN.out; omega)
              rw [HADD.out] at cAd
              go_wp2_with fail
              refine cAd.mono ?_
              rintro e w9 ⟨rfl, ov9, ou9, hO9, hk9⟩
              have HO9 := Lib.hid hO9
              have HB9 : Hid (Below w6.heap.size w6 w9) := Lib.hid (HB8.out.trans (hk9.below HB8.out.size fun g hg => by rw [hg, HKO.out]; exact Nat.le_refl _))
              clear hO9 hk9 cAd
              go_wp2_with fail
              go_roundw
              case rel =>
                refine ⟨k + 1, ov9, ou9, Mo, by simp, by rw [HM0.out]; omega, HO9.out, HFL.out.iff fun q2 => ?_, by have := HLEN.out; have := HML.out; omega, HB9.out⟩
                rw [HTK.out]
                constructor
                · rintro (⟨a, b⟩ | rfl)
                  · exact ⟨.inl a, b⟩
                  · exact ⟨.inr rfl, by rw [HCV.out, HGZ.out]; exact HNE.out⟩
                · rintro ⟨a | a, b⟩
                  · exact .inl ⟨a, b⟩
                  · exact .inr a
              case measure => simp [intOf] <;> omega)
        · have hkI : ¬ (k : Int) < (m0 : Int) := by omega
          obtain rfl : k = m0 := by omega
          have y0 := (HB.out.cell l0).trans cw0
          have HFA : Hid (Flag Lo (fun q2 => q2 ∈ keysC L0 ∧ getC L1 q2 ≠ getC L0 q2)) := Lib.hid (by
            have := HF.out
            rw [List.take_of_length_le (by rw [keysC_len, HM0.out]; exact Nat.le_refl _)] at this
            exact this)
          have H8 : Hid (RM3 w6 Ko L0 L1 (.int .i64 0) wr) := Lib.hid ⟨0, ov, ou, Lo, rfl, Nat.zero_le _, HO.out, HFA.out.iff fun q2 => by simp, by have := HLEN.out; have := HM0.out; omega, HB.out⟩
          clear l0 l0' cw0 cw1
          go_wp2_with fail
          go_loopw [16] (fun iv wr => RM3 w6 Ko L0 L1 iv wr) (fun iv _ => m1 + 1 - (intOf iv).toNat)
          case atStart => exact H8.out
          case round =>
            obtain ⟨wo, hwo⟩ : ∃ wo, wo = wr := ⟨_, rfl⟩
            subst hwo
            obtain ⟨j, ov3, ou3, L3, rfl, hj, hO3, hF3, hlen3, hB3⟩ := hrel
            rw [HM1.out] at hj
            have HO3' := Lib.hid hO3; have HF3 := Lib.hid hF3; have HLEN3 := Lib.hid hlen3; have HB3' := Lib.hid hB3
            clear hO3 hF3 hlen3 hB3 H8 y0
            have l0 := (HR1.out.lt Kn (.inl rfl)).2
            obtain ⟨cw0, _, _, _⟩ := drcell HR1.out.cells
            by_cases hgj : j < m1
            · have hjI : (j : Int) < (m1 : Int) := by omega
              have hjL : j < L1.length := by rw [HM1.out]; exact hgj
              obtain ⟨g1, cc1, g2, cc2, e1, e2, x0, x1, x2'⟩ := HR1.out.at hjL
              clear x2'
              rw [HM1.out] at e1 e2
              simp only [Value.slice.injEq] at e1 e2
              obtain ⟨rfl, _, rfl⟩ := e1
              obtain ⟨rfl, _, rfl⟩ := e2
              have l1 := (HR1.out.lt g1 (.inr (.inl rfl))).2
              obtain ⟨z0, z1, zc, hz⟩ : ∃ z0 z1 zc, L1[j] = ((z0, z1), zc) := ⟨_, _, _, rfl⟩
              rw [hz] at x0 x1
              simp only at x0 x1
              have HSW : Hid (∀ W, Below w6.heap.size w6 W → W.cell? ⟨Kn, 0, none⟩ = some (.slice (some ⟨g1, 0, none⟩) m1 n0) ∧ W.cell? ⟨g1, j * 2, none⟩ = some (.int .i64 z0) ∧ W.cell? ⟨g1, j * 2 + 1, none⟩ = some (.int .i64 z1)) := Lib.hid fun W hW =>
                ⟨(hW.cell l0).trans cw0, (hW.cell l1).trans x0, (hW.cell l1).trans x1⟩
              have hfz : FitsPr (z0, z1) := by have := (HG1.out.fits _ (List.getElem_mem hjL)).1; rw [hz] at this; exact this
              have hgz : 0 < getC L1 (z0, z1) := (keys_get HG1.out).1 (by have h1 := List.getElem_mem (show j < (keysC L1).length by rw [keysC_len]; exact hjL); rw [keys_at hjL, hz] at h1; exact h1)
              have htk := take_key hjL
              have hfr := take_fresh HG1.out hjL
              rw [hz] at htk hfr
              simp only at htk hfr
              have HTK := Lib.hid htk; have HFR := Lib.hid hfr; have HGZ := Lib.hid hgz; have HFZ := Lib.hid hfz
              obtain ⟨cv, hcv⟩ : ∃ cv, getC L0 (z0, z1) = cv := ⟨_, rfl⟩
              have HCV := Lib.hid hcv
              have HGT : Hid (Calls Tryz.prog 36 #[.pointer (some ⟨Kw, 0, none⟩), .agg #[.int .i64 z0, .int .i64 z1]] wo fun e w' => e = .returned (.int .i64 cv) ∧ Below wo.heap.size wo w') := Lib.hid (by
                refine (rget_any w1.heap.size Kw _ _ L0 z0 z1 wo (HR06.out.below HB3'.out) (by have := HL0.out; omega)).mono ?_
                rintro e w' ⟨rfl, nd, rfl⟩
                exact ⟨by rw [hcv], below_drewN' ((Below.refl wo.heap.size wo).alloc (Nat.le_refl _) _) nd⟩)
              obtain ⟨y0, y1, y2⟩ := HSW.out wo HB3'.out
              clear x0 x1 hz hjL htk hfr hgz hfz hcv l0 l1 cw0
              go_wp2_with fail
              refine HGT.out.mono ?_
              rintro e w8 ⟨rfl, hb8⟩
              have HB8 := Lib.hid (HB3'.out.trans (hb8.mono HB3'.out.size))
              have HO8 := Lib.hid (HO3'.out.below hb8)
              clear y0 y1 y2 hb8
              obtain ⟨y0, y1, y2⟩ := HSW.out w8 HB8.out
              by_cases hne : cv = 0
              · subst hne
                obtain ⟨Mo, hadd, hfl, hml⟩ := HF3.out.add HFZ.out (fun a => by
                  rcases a with ⟨a, _⟩ | ⟨a, _⟩
                  · have := (keys_get HG0.out).1 a; have := HCV.out; omega
                  · exact HFR.out a)
                have HFL := Lib.hid hfl; have HML := Lib.hid hml; have HADD := Lib.hid hadd
                clear hadd hfl hml
                have cAd := dradd_any w6.heap.size Ko ov3 ou3 L3 z0 z1 1 1 w8 HO8.out HF3.out.1 (by unfold FitsZ; omega) (by unfold FitsZ; omega) (by have := HLEN3.out; have := HL0.out; omega)
                rw [HADD.out] at cAd
                go_wp2_with fail
                refine cAd.mono ?_
                rintro e w9 ⟨rfl, ov9, ou9, hO9, hk9⟩
                have HO9 := Lib.hid hO9
                have HB9 : Hid (Below w6.heap.size w6 w9) := Lib.hid (HB8.out.trans (hk9.below HB8.out.size fun g hg => by rw [hg, HKO.out]; exact Nat.le_refl _))
                clear hO9 hk9 cAd
                go_wp2_with fail
                go_roundw
                case rel =>
                  refine ⟨j + 1, ov9, ou9, Mo, by simp, by rw [HM1.out]; omega, HO9.out, HFL.out.iff fun q2 => ?_, by have := HLEN3.out; have := HML.out; omega, HB9.out⟩
                  rw [HTK.out]
                  constructor
                  · rintro ((a | ⟨a, b⟩) | rfl)
                    · exact .inl a
                    · exact .inr ⟨.inl a, b⟩
                    · exact .inr ⟨.inr rfl, HCV.out⟩
                  · rintro (a | ⟨a | a, b⟩)
                    · exact .inl (.inl a)
                    · exact .inl (.inr ⟨a, b⟩)
                    · exact .inr a
                case measure => simp [intOf] <;> omega
              · have hnb : (cv == 0) = false := by simp [hne]
                have HNE := Lib.hid hne
                clear hne
                go_wp2_with fail
                go_roundw
                case rel =>
                  refine ⟨j + 1, ov3, ou3, L3, by simp, by rw [HM1.out]; omega, HO8.out, HF3.out.iff fun q2 => ?_, by have := HLEN3.out; omega, HB8.out⟩
                  rw [HTK.out]
                  constructor
                  · rintro (a | ⟨a, b⟩)
                    · exact .inl a
                    · exact .inr ⟨.inl a, b⟩
                  · rintro (a | ⟨a | a, b⟩)
                    · exact .inl a
                    · exact .inr ⟨a, b⟩
                    · rw [a, HCV.out] at b; exact absurd b HNE.out
                case measure => simp [intOf] <;> omega
            · have hjI : ¬ (j : Int) < (m1 : Int) := by omega
              obtain rfl : j = m1 := by omega
              have y0 := (HB3'.out.cell l0).trans cw0
              have HFA3 : Hid (Flag L3 (fun q2 => getC L1 q2 ≠ getC L0 q2)) := Lib.hid (by
                refine HF3.out.iff fun q2 => ?_
                rw [List.take_of_length_le (by rw [keysC_len, HM1.out]; exact Nat.le_refl _), keys_get HG0.out, keys_get HG1.out]
                have h1 := HG0.out.get q2; have h2 := HG1.out.get q2
                constructor
                · rintro (⟨_, b⟩ | ⟨a, b⟩)
                  · exact b
                  · omega
                · intro b
                  by_cases hz : getC L0 q2 = 0
                  · exact .inr ⟨by omega, hz⟩
                  · exact .inl ⟨by omega, b⟩)
              obtain ⟨o0, _, _, _⟩ := drcell HO3'.out.cells
              have HOF := Lib.hid HO3'.out.keys
              obtain ⟨wf, hwf⟩ : ∃ wf, wf = wo.drew := ⟨_, rfl⟩
              have o1 : wf.cell? ⟨Ko, 0, none⟩ = some ov3 := by rw [hwf]; exact o0
              have hwf' := hwf.symm
              have HBF : Hid (Below w5.heap.size w5 wf) := Lib.hid (by rw [hwf]; exact (HB6.out.trans (HB3'.out.mono HB6.out.size)).drew)
              have HOF2 : Hid (ownE pairE wf w6.heap.size ov3 (keysC L3)) := Lib.hid (by rw [hwf]; exact HOF.out.drew)
              clear l0 cw0 hwf o0
              go_wp2_with fail
              go_region
              all_goals (go_wp2_with fail)
              go_ret2
              have hz5 := HKEEP.out.size
              refine ⟨T, ov3, keysC L3, _, E1, rfl, HSUMF.out, HOF2.out.mono (by have := HB6.out.size; omega), ris_keys HFA3.out.1.ris, fun q2 => ?_, HD5.out.below HBF.out, HKEEP.out.trans (Kept.of_below (S := fun _ => False) HBF.out (Nat.le_refl _)) (fun _ _ h => h.elim), fun g hg => ?_⟩
              · rw [HFA3.out.keys, HT1.out, HT0.out]
              · have hzz := HB2.out.size
                rcases hg with e | e | e | ⟨x, hx, e⟩
                · exact .inl (.inl e)
                · have := (HO4.out.lt g (by rw [HEL.out]; exact e.symm)).1
                  exact .inr (by omega)
                · exact .inl (.inr (.inr (.inl e)))
                · obtain ⟨jj, hjj⟩ := List.mem_iff_getElem?.1 hx
                  have hjl := (List.getElem?_eq_some_iff.1 hjj).1
                  have := HNEW.out jj x hjj (by rw [HRR.out.len, upto_len _ _ _ _ (by rw [HN.out]; omega), HN.out] at hjl; exact hjl) g e.symm
                  exact .inr (by omega)
end Go.Proofs.YtejcemmhhpbchaaGreat
/- The document's index made. -/
namespace Go.Proofs.YtejcemmhhpbchaaGreat
open Go.RowKit Go.Maps

/-- What it has when k words are in. -/
def RNew (L : Bag) (w : World) (K : Nat) (kv : Value) (wr : World) : Prop :=
  ∃ (k : Nat) (v u : Value) (E : List Hd), kv = .int .i64 (k : Int) ∧ k ≤ L.length ∧ RIx wr w.heap.size K v u E ((wsOf L).take k) ∧ (∀ (j : Nat) e, E[j]? = some e → ∀ g, (hdV e).ownBlock = some g → some g ≠ u.ownBlock) ∧ Below w.heap.size w wr
set_option maxRecDepth 100000 in
/-- One word more. -/
theorem RIx.push {wr wF : World} {base K : Nat} {v u r7 r8 : Value} {E : List Hd} {ws : List Wd} {e : Hd} {X : List Int} {c : Int} (h : RIx wr base K v u E ws) (hsep : ∀ (j : Nat) e, E[j]? = some e → ∀ g, (hdV e).ownBlock = some g → some g ≠ u.ownBlock)
    (hk : Kept (fun i => i = K ∨ some i = v.ownBlock ∨ some i = u.ownBlock) wr wF) (hbox : wF.heap[K]? = some (.cells #[r7, r8] 51 (0, 0))) (h7 : ownE sliceE wF base r7 (E ++ [e])) (h8 : ownE intE wF base r8 (ws.map (·.2) ++ [c])) (he : ownE intE wF base (hdV e) X)
    (hn8 : ∀ g, r8.ownBlock = some g → some g = u.ownBlock ∨ wr.heap.size ≤ g) (hne : ∀ g, (hdV e).ownBlock = some g → some g ≠ r8.ownBlock) :
    RIx wF base K r7 r8 (E ++ [e]) (ws ++ [(X, c)]) ∧ ∀ (j : Nat) e2, (E ++ [e])[j]? = some e2 → ∀ g, (hdV e2).ownBlock = some g → some g ≠ r8.ownBlock := by
  refine ⟨⟨hbox, h.ge, h7, by rw [List.map_append]; exact h8, by simp [h.len], fun j X2 t2 hj => ?_⟩, fun j e2 hj g hg => ?_⟩
  · rw [List.getElem?_append] at hj
    split at hj
    · rename_i hlt
      obtain ⟨e2, h1, h2⟩ := h.each j X2 t2 hj
      refine ⟨e2, by rw [List.getElem?_append_left (by rw [h.len]; exact hlt)]; exact h1, h2.kept fun g hg => hk.block g (h2.lt g hg).2 ?_⟩
      rintro (a | a | a)
      · exact own_ne h2 h.box (by decide) g hg a
      · obtain ⟨cs, hcs⟩ := h.words.block g a.symm
        obtain ⟨cs2, hcs2⟩ := h2.block g hg
        rw [hcs] at hcs2
        have := congrArg (fun o => match o with | some (Obj.cells _ t _) => t | _ => 0) hcs2
        simp [sliceE, intE] at this
      · exact hsep j e2 h1 g hg a
    · rename_i hlt
      have hz : j - ws.length = 0 := by
        have := (List.getElem?_eq_some_iff.1 hj).1
        simp at this; omega
      rw [hz] at hj
      simp only [List.getElem?_cons_zero, Option.some.injEq, Prod.mk.injEq] at hj
      obtain ⟨rfl, rfl⟩ := hj
      have hjl : j = E.length := by rw [h.len]; omega
      exact ⟨e, by rw [hjl]; simp, he⟩
  · rw [List.getElem?_append] at hj
    split at hj
    · rename_i hlt
      intro e3
      obtain ⟨X2, t2, hw⟩ : ∃ X t, ws[j]? = some (X, t) := ⟨_, _, List.getElem?_eq_getElem (by rw [← h.len]; exact hlt)⟩
      obtain ⟨e4, h1, h2⟩ := h.each j X2 t2 hw
      rw [hj] at h1
      cases h1
      have hlt2 := (h2.lt g hg).2
      rcases hn8 g e3.symm with a | a
      · exact hsep j e2 hj g hg a
      · omega
    · rename_i hlt
      have hz : j - E.length = 0 := by
        have := (List.getElem?_eq_some_iff.1 hj).1
        simp at this; omega
      rw [hz] at hj
      simp only [List.getElem?_cons_zero, Option.some.injEq] at hj
      subst hj
      exact hne g hg
set_option maxRecDepth 100000 in
theorem type_ne {α β : Type} {R : Elt α} {R2 : Elt β} {w : World} {b b2 : Nat} {x y : Value} {A : List α} {B : List β} (h : ownE R w b x A) (k : ownE R2 w b2 y B) (hne : R.ty ≠ R2.ty) {g : Nat} (hg : x.ownBlock = some g) : some g ≠ y.ownBlock := fun e => by
  obtain ⟨cs, h1⟩ := h.block g hg
  obtain ⟨cs2, h2⟩ := k.block g e.symm
  rw [h1] at h2
  have := congrArg (fun o => match o with | some (Obj.cells _ t _) => t | _ => 0) h2
  exact hne this
set_option maxRecDepth 100000 in
theorem box_grown {w w' : World} {K : Nat} {cs : Array Value} (hb : w.heap[K]? = some (.cells cs 51 (0, 0))) {α : Type} {R : Elt α} {b : Nat} {x : Value} {A : List α} (ho : ownE R w b x A) (ht : R.ty ≠ 51) (hg : w.grownBy w' x.ownBlock) : w'.heap[K]? = some (.cells cs 51 (0, 0)) :=
  (hg.block K (Array.getElem?_eq_some_iff.1 hb).1 fun e => own_ne ho hb ht K e.symm rfl).trans hb
/-- One word's row of symbols and its count laid into the index, step by step. -/
structure NewMid (wr w7 : World) (base K : Nat) (r7 u : Value) (E : List Hd) (e : Hd) (ws : List Wd) (X : List Int) (v : Value) : Prop where
  box : w7.heap[K]? = some (.cells #[v, u] 51 (0, 0))
  row : ownE sliceE w7 base r7 (E ++ [e])
  cnt : ownE intE w7 base u (ws.map (·.2))
  own : ownE intE w7 base (hdV e) X
  sep : ∀ g, (hdV e).ownBlock = some g → some g ≠ u.ownBlock
  kept : Kept (fun i => i = K ∨ some i = v.ownBlock ∨ some i = u.ownBlock) wr w7
set_option maxRecDepth 100000 in
theorem new_mid {wr w6 w7 : World} {base K : Nat} {v u r7 : Value} {E : List Hd} {e : Hd} {ws : List Wd} {X : List Int} {o : Obj} (h : RIx wr base K v u E ws) (hbase : base ≤ wr.heap.size) (h6 : Below wr.heap.size wr w6) (he : ownE intE w6 wr.heap.size (hdV e) X) (h7 : ownE sliceE w7 base r7 (E ++ [e])) (hg : (w6.alloc o).grownBy w7 v.ownBlock) : NewMid wr w7 base K r7 u E e ws X v := by
  have hw := (h.below h6).words.alloc o
  have hc := (h.below h6).counts.alloc o
  have ha := he.alloc o
  have hb : (w6.alloc o).heap[K]? = some (.cells #[v, u] 51 (0, 0)) := (Below.heap_alloc _ _ _ (Array.getElem?_eq_some_iff.1 (h.below h6).box).1).trans (h.below h6).box
  refine ⟨box_grown hb hw (by decide) hg, h7, hc.kept fun g hg2 => hg.block g (hc.lt g hg2).2 (type_ne hc hw (by decide) hg2), (ha.mono hbase).kept fun g hg2 => hg.block g (ha.lt g hg2).2 (type_ne ha hw (by decide) hg2), fun g hg2 e2 => ?_, ?_⟩
  · have h1 := (he.lt g hg2).1
    have h2 := (h.counts.lt g e2.symm).2
    omega
  · exact ((Kept.of_below h6 (Nat.le_refl _)).alloc o).grown hg fun k e2 _ => .inr (.inl e2.symm)
set_option maxRecDepth 100000 in
theorem NewMid.store {wr w7 : World} {base K : Nat} {v r7 u : Value} {E : List Hd} {e : Hd} {ws : List Wd} {X : List Int} (h : NewMid wr w7 base K r7 u E e ws X v) : (w7.setCell ⟨K, 0, none⟩ r7).heap[K]? = some (.cells #[r7, u] 51 (0, 0)) ∧ ownE sliceE (w7.setCell ⟨K, 0, none⟩ r7) base r7 (E ++ [e]) ∧ ownE intE (w7.setCell ⟨K, 0, none⟩ r7) base u (ws.map (·.2)) ∧ ownE intE (w7.setCell ⟨K, 0, none⟩ r7) base (hdV e) X ∧
    Kept (fun i => i = K ∨ some i = v.ownBlock ∨ some i = u.ownBlock) wr (w7.setCell ⟨K, 0, none⟩ r7) := by
  have hs : ∀ g, g ≠ K → (w7.setCell ⟨K, 0, none⟩ r7).heap[g]? = w7.heap[g]? := fun g hg => Below.heap_setCell _ _ _ _ hg
  refine ⟨by rw [heap_setCell_at h.box]; rfl, h.row.kept fun g hg => hs g (own_ne h.row h.box (by decide) g hg), h.cnt.kept fun g hg => hs g (own_ne h.cnt h.box (by decide) g hg), h.own.kept fun g hg => hs g (own_ne h.own h.box (by decide) g hg), h.kept.setCell _ _ fun _ => .inl rfl⟩
set_option maxRecDepth 100000 in
/-- .. and the count. -/
theorem new_done {wr w8 wD w9 : World} {base K : Nat} {v u r7 r8 : Value} {E : List Hd} {e : Hd} {ws : List Wd} {X : List Int} {c : Int} (h : RIx wr base K v u E ws) (hsep : ∀ (j : Nat) e, E[j]? = some e → ∀ g, (hdV e).ownBlock = some g → some g ≠ u.ownBlock) (hes : ∀ g, (hdV e).ownBlock = some g → some g ≠ u.ownBlock)
    (hbox : w8.heap[K]? = some (.cells #[r7, u] 51 (0, 0))) (h7 : ownE sliceE w8 base r7 (E ++ [e])) (hcn : ownE intE w8 base u (ws.map (·.2))) (he : ownE intE w8 base (hdV e) X) (hk : Kept (fun i => i = K ∨ some i = v.ownBlock ∨ some i = u.ownBlock) wr w8) (hD : Below w8.heap.size w8 wD)
    (h9 : ownE intE w9 base r8 (ws.map (·.2) ++ [c])) (hg : wD.grownBy w9 u.ownBlock) (hr : r8.ownBlock = u.ownBlock ∨ r8.ownBlock = some wD.heap.size) :
    RIx (w9.setCell ⟨K, 1, none⟩ r8) base K r7 r8 (E ++ [e]) (ws ++ [(X, c)]) ∧ (∀ (j : Nat) e2, (E ++ [e])[j]? = some e2 → ∀ g, (hdV e2).ownBlock = some g → some g ≠ r8.ownBlock) ∧ Kept (fun i => i = K ∨ some i = v.ownBlock ∨ some i = u.ownBlock) wr (w9.setCell ⟨K, 1, none⟩ r8) := by
  have hbD := (hD.block K (Array.getElem?_eq_some_iff.1 hbox).1).trans hbox
  have h7D := h7.below hD
  have hcD := hcn.below hD
  have heD := he.below hD
  have hb9 := box_grown hbD hcD (by decide) hg
  have h79 : ownE sliceE w9 base r7 (E ++ [e]) := h7D.kept fun g hg2 => hg.block g (h7D.lt g hg2).2 (type_ne h7D hcD (by decide) hg2)
  have he9 : ownE intE w9 base (hdV e) X := heD.kept fun g hg2 => hg.block g (heD.lt g hg2).2 (hes g hg2)
  have hs : ∀ g, g ≠ K → (w9.setCell ⟨K, 1, none⟩ r8).heap[g]? = w9.heap[g]? := fun g hg => Below.heap_setCell _ _ _ _ hg
  have hkD := hk.trans (Kept.of_below (S := fun _ => False) hD (Nat.le_refl _)) fun _ _ h => h.elim
  have hkF : Kept (fun i => i = K ∨ some i = v.ownBlock ∨ some i = u.ownBlock) wr (w9.setCell ⟨K, 1, none⟩ r8) := (hkD.grown hg fun k e2 _ => .inr (.inr e2.symm)).setCell _ _ fun _ => .inl rfl
  have hz := hD.size
  have hz2 := hk.size
  obtain ⟨a, b⟩ := h.push hsep hkF (by rw [heap_setCell_at hb9]; rfl) (h79.kept fun g hg2 => hs g (own_ne h79 hb9 (by decide) g hg2)) (h9.kept fun g hg2 => hs g (own_ne h9 hb9 (by decide) g hg2)) (he9.kept fun g hg2 => hs g (own_ne he9 hb9 (by decide) g hg2)) (fun g hg2 => by
    rcases hr with e2 | e2
    · exact .inl (by rw [← e2, hg2])
    · rw [hg2] at e2; cases e2; exact .inr (by omega)) (fun g hg2 e2 => by
    rcases hr with e3 | e3
    · exact hes g hg2 (by rw [← e3]; exact e2)
    · rw [e3] at e2
      cases e2
      have := (heD.lt _ hg2).2
      omega)
  exact ⟨a, b, hkF⟩
/-- What New of the document tells. -/
def RNewRet (L : Bag) (w : World) (e : Ending) (w' : World) : Prop := ∃ (K : Nat) (r u : Value) (E : List Hd), e = .returned (.pointer (some ⟨K, 0, none⟩)) ∧ RIx w' w.heap.size K r u E (wsOf L) ∧ Below w.heap.size w w'
set_option maxRecDepth 100000 in
set_option maxHeartbeats 8000000 in
theorem rxnew_any (v : Value) (L : Bag) (w : World) (hv : wordsAt w v L) (hL : L.length ≤ 1000) (hP : bytesOf L ≤ 1000) :
    Calls Tryz.prog 9 #[v] w fun e w' => RNewRet L w e w' := by
  have HV := Lib.hid hv; have HPB := Lib.hid hP
  obtain ⟨a, cap, rfl, _⟩ := hv
  obtain ⟨n, hn⟩ : ∃ n, L.length = n := ⟨_, rfl⟩
  have HN := Lib.hid hn
  have hn1 : n ≤ 1000 := by omega
  obtain ⟨K, hK⟩ : ∃ K, w.heap.size = K := ⟨_, rfl⟩
  have HK := Lib.hid hK
  obtain ⟨w1, hw1⟩ : ∃ w1, w1 = w.alloc (.cells #[.slice none 0 0, .slice none 0 0] 51) := ⟨_, rfl⟩
  have H1 : Hid (RNew L w K (.int .i64 0) w1) := Lib.hid ⟨0, .slice none 0 0, .slice none 0 0, [], rfl, Nat.zero_le _, ⟨by rw [hw1, ← hK]; exact heap_alloc_new w _, by omega, ownE.nil _ _, ownE.nil _ _, rfl, fun j X t hj => by simp at hj⟩, fun j e he => by simp at he, by rw [hw1]; exact (Below.refl _ w).alloc (Nat.le_refl _) _⟩
  have hw1' := hw1.symm
  rw [hn] at HV ⊢
  clear hn hw1 hL hP
  go_enter Tryz.func9, Tryz.ntmps9
  go_wp2_with fail
  clear hw1' hK
  go_loopw [4] (fun kv wr => RNew L w K kv wr) (fun kv _ => n + 1 - (intOf kv).toNat)
  case atStart => exact H1.out
  case round =>
    obtain ⟨k, v1, u1, E, rfl, hk, hR, hsep, hB⟩ := hrel
    rw [HN.out] at hk
    have HR := Lib.hid hR; have HSEP := Lib.hid hsep; have HB := Lib.hid hB
    clear hR hsep hB H1
    by_cases hgo : k < n
    · have hkI : (k : Int) < (n : Int) := by omega
      have hkL : k < L.length := by rw [HN.out]; exact hgo
      obtain ⟨ad, rfl⟩ : ∃ ad, a = some ad := by
        obtain ⟨_, _, e, hc⟩ := HV.out
        obtain ⟨ad, e2, _⟩ := hc k hkL
        exact ⟨ad, (Value.slice.inj e).1.trans e2⟩
      obtain ⟨⟨s, c⟩, hp⟩ : ∃ p, L[k] = p := ⟨_, rfl⟩
      have HCW : Hid (∀ W, Below w.heap.size w W → W.cell? (ad.add (k * 2)) = some (.string s) ∧ W.cell? ⟨(ad.add (k * 2)).block, (ad.add (k * 2)).off + 1, none⟩ = some (.int .i64 c)) := Lib.hid fun W hW => by
        have := words_at HV.out hW hkL
        rw [hp] at this
        exact this
      have hsz : s.size ≤ 1000 := by
        have h1 := bytes_step hkL
        have h2 := bytes_le L (k + 1)
        rw [hp] at h1
        simp only at h1
        have := HPB.out; omega
      have HWK : Hid ((wsOf L).take (k + 1) = (wsOf L).take k ++ [(syms s, c)]) := Lib.hid (by
        rw [List.take_succ_eq_append_getElem (by rw [ws_len]; exact hkL)]
        simp [wsOf, hp])
      have HEL : Hid (E.length = k) := Lib.hid (by rw [HR.out.len, List.length_take, ws_len, HN.out]; omega)
      have HSY := Lib.hid (rsym_any s wr.drew hsz)
      obtain ⟨x0, _⟩ := HCW.out wr HB.out
      have k0 := HR.out.cells.1
      have hKw := (HR.out.lt (.inl rfl)).2
      clear hp hsz hkL
      go_wp2_with fail
      go_region_law
        (first
        | (go_simp; go_at_call 31; refine HSY.out.mono ?_; rintro e w6 ⟨r, rfl, ho6, hb6⟩; obtain ⟨ra, rc, rfl, _⟩ := ho6.form; have hb6' : Below wr.heap.size wr w6 := ⟨hb6.os, hb6.tape, hb6.output, hb6.size, hb6.block⟩; have HB6 := Lib.hid hb6'; have HO6 := Lib.hid ho6; have HR6 := Lib.hid (HR.out.below hb6'); have k6 := HR6.out.cells.1; have x6 := (HCW.out w6 (HB.out.trans (hb6'.mono HB.out.size))).1; have k6' : (w6.alloc (.cells #[.slice ra (syms s).length rc] 43)).cell? ⟨K, 0, none⟩ = some v1 := (((Below.refl _ w6).alloc (Nat.le_refl _) _).cell (HR6.out.lt (.inl rfl)).2).trans k6; have HOW6 := Lib.hid (HR6.out.words.alloc (.cells #[.slice ra (syms s).length rc] 43)); clear ho6 hb6 hb6')
        | (refine step_append_elts sliceE rfl (.tmp 17) (.tmp 24) rfl w.heap.size v1 (.slice (some ⟨w6.heap.size, 0, none⟩) 1 1) E [(ra, (syms s).length, rc)] rfl rfl HOW6.out (one_elt sliceE w6 (ra, (syms s).length, rc)) (someNone _ _ _) (by rw [HEL.out]; simp; omega) (by have := HB.out.size; have := HB6.out.size; rw [World.size_alloc]; omega) ?_; intro r7 w7 ho7 hg7 hr7; obtain ⟨rb, rd, rfl, _⟩ := ho7.form; rw [List.length_append, List.length_singleton] at ho7 hr7; have HO7 := Lib.hid ho7; have HG7 := Lib.hid hg7; have HR7 := Lib.hid hr7; have HMID := Lib.hid (new_mid (e := (ra, (syms s).length, rc)) HR.out HB.out.size HB6.out HO6.out ho7 hg7); obtain ⟨z0, zf⟩ : w7.cell? ⟨K, 0, none⟩ = some v1 ∧ w7.frozen? ⟨K, 0, none⟩ = false := ⟨by rw [cell_of_row w7 K 0 _ 51 (0, 0) HMID.out.box]; rfl, Lib.frozen_of_heap HMID.out.box 0⟩; clear ho7 hg7 hr7))
      all_goals (
        obtain ⟨w8, hw8⟩ : ∃ w8, w8 = w7.setCell ⟨K, 0, none⟩ (.slice rb (E.length + 1) rd) := ⟨_, rfl⟩
        obtain ⟨s1, s2, s3, s4, s5⟩ := HMID.out.store
        rw [← hw8] at s1 s2 s3 s4 s5 ⊢
        have hB8 : Below w.heap.size w w8 := HB.out.trans (s5.below HB.out.size fun i hi => by
          rcases hi with e | e | e
          · rw [e, HK.out]; exact Nat.le_refl _
          · exact (HR.out.words.lt i e.symm).1
          · exact (HR.out.counts.lt i e.symm).1)
        obtain ⟨wD, hwD⟩ : ∃ wD, wD = (w8.alloc (.cells #[.int .i64 c] 3)).drew := ⟨_, rfl⟩
        have BD : Below w8.heap.size w8 wD := by rw [hwD]; exact ((Below.refl _ w8).alloc (Nat.le_refl _) _).drew
        have hone : eltsAt intE wD (.slice (some ⟨w8.heap.size, 0, none⟩) 1 1) [c] := by rw [hwD]; exact (one_elt intE w8 c).drew 1
        have q0 : w8.cell? ⟨K, 1, none⟩ = some u1 := by rw [cell_of_row w8 K 1 _ 51 (0, 0) s1]; rfl
        have qD : wD.cell? ⟨K, 1, none⟩ = some u1 := (BD.cell (Array.getElem?_eq_some_iff.1 s1).1).trans q0
        have x8 := (HCW.out w8 hB8).2
        have xD := (HCW.out wD (hB8.trans (BD.mono hB8.size))).2
        have HS1 := Lib.hid s1; have HS2 := Lib.hid s2; have HS3 := Lib.hid s3; have HS4 := Lib.hid s4; have HS5 := Lib.hid s5; have HBD := Lib.hid BD; have HONE := Lib.hid hone; have HB8 := Lib.hid hB8
        obtain ⟨CL, hCL⟩ : ∃ CL, ((wsOf L).take k).map (·.2) = CL := ⟨_, rfl⟩
        have HCL := Lib.hid hCL
        have hCLn : CL.length ≤ 1000 := by rw [← hCL, List.length_map, List.length_take]; omega
        have HCD : Hid (ownE intE wD w.heap.size u1 CL) := Lib.hid (by rw [← hCL]; exact s3.below BD)
        clear hCL
        have hwD' := hwD.symm
        clear s1 s2 s3 s4 s5 hw8 hwD BD hone hB8 z0 zf k6 k6' x6 k0 x0
        go_wp2_with fail
        go_region_law
          (first | (refine step_append_elts intE rfl (.tmp 32) (.tmp 38) rfl w.heap.size u1 (.slice (some ⟨w8.heap.size, 0, none⟩) 1 1) CL [c] rfl rfl HCD.out HONE.out (someNone _ _ _) (by simp; omega) (by have := HB8.out.size; have := HBD.out.size; omega) ?_; intro r8 w9 ho9 hg9 hr9; obtain ⟨re, rf, rfl, _⟩ := ho9.form; rw [List.length_append, List.length_singleton] at ho9 hr9; obtain ⟨y9, f9⟩ : w9.cell? ⟨K, 1, none⟩ = some u1 ∧ w9.frozen? ⟨K, 1, none⟩ = false := (by have h1 := box_grown ((HBD.out.block K (Array.getElem?_eq_some_iff.1 HS1.out).1).trans HS1.out) HCD.out (by decide) hg9; exact ⟨by rw [cell_of_row w9 K 1 _ 51 (0, 0) h1]; rfl, Lib.frozen_of_heap h1 1⟩); have HO9 := Lib.hid ho9; have HG9 := Lib.hid hg9; have HR9 := Lib.hid hr9; clear ho9 hg9 hr9))
        all_goals (
          go_wp2_with fail
          go_roundw
          case rel =>
            have hcl := HCL.out
            subst hcl
            obtain ⟨a1, a2, a3⟩ := new_done HR.out HSEP.out HMID.out.sep HS1.out HS2.out HS3.out HS4.out HS5.out HBD.out HO9.out HG9.out HR9.out
            refine ⟨k + 1, _, _, _, by simp, by rw [HN.out]; omega, by rw [HWK.out]; exact a1, a2, HB.out.trans (a3.below HB.out.size fun i hi => ?_)⟩
            rcases hi with e | e | e
            · rw [e, HK.out]; exact Nat.le_refl _
            · exact (HR.out.words.lt i e.symm).1
            · exact (HR.out.counts.lt i e.symm).1
          case measure => simp [intOf] <;> omega))
    · have hkI : ¬ (k : Int) < (n : Int) := by omega
      obtain rfl : k = n := by omega
      go_wp2_with fail
      go_ret
      have hall : (wsOf L).take k = wsOf L := List.take_of_length_le (by rw [ws_len, HN.out]; exact Nat.le_refl _)
      have hR := HR.out
      rw [hall] at hR
      exact ⟨K, v1, u1, E, rfl, hR, HB.out⟩
end Go.Proofs.YtejcemmhhpbchaaGreat
