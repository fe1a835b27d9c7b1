/- Texts in one: IxTab, IxNew, IxSame, IxAwake, IxLaw. -/
import Derived.Test.YtejcemmhhpbchaaGreatGC
import Derived.Test.YtejcemmhhpbchaaGreatTabV
import Derived.Test.YtejcemmhhpbchaaGreatGD
import Derived.Test.YtejcemmhhpbchaaGreatCheckV
import Derived.Test.YtejcemmhhpbchaaGreatGM
/- A right table's words as an index has them, plain. -/
namespace Go.Proofs.YtejcemmhhpbchaaGreat
open Go.RowKit Go.Maps

def wsOf (L : Bag) : List Wd := L.map fun p => (syms p.1, p.2)
set_option maxRecDepth 100000 in
theorem ws_len (L : Bag) : (wsOf L).length = L.length := by simp [wsOf]
set_option maxRecDepth 100000 in
theorem ws_bytes (L : Bag) : lenW (wsOf L) = (bytesOf L : Int) := by
  induction L with
  | nil => rfl
  | cons p r ih =>
    have e1 : lenW (wsOf (p :: r)) = ((syms p.1).length : Int) + lenW (wsOf r) := rfl
    have e2 : bytesOf (p :: r) = p.1.size + bytesOf r := by simp [bytesOf]
    rw [e1, e2, ih, syms_len]; omega
set_option maxRecDepth 100000 in
theorem check_each : ∀ (L : Bag) (k : Nat) (o : Option (ByteArray × Int)), checkFrom k o L = none → ∀ p ∈ L, wrongW p.1 p.2 = 0
  | [], _, _, _, p, hp => by simp at hp
  | q :: r, k, o, h, p, hp => by
    rw [checkFrom] at h
    split at h
    · rename_i h0
      rcases List.mem_cons.1 hp with rfl | hp
      · unfold wrongBy at h0
        split at h0
        · rename_i h1; exact h1
        · exact h0
      · exact check_each r _ _ h p hp
    · cases h
set_option maxRecDepth 100000 in
theorem dot_wt : ∀ (L : Bag) (t r : Int), dotFrom t (countsOf L) (roomsOf L) = (r, true) → r = t + wtW (wsOf L) ∧ (t ≤ 9223372036854775807 → r ≤ 9223372036854775807)
  | [], t, r, h => by
    have e : (t, true) = (r, true) := h
    simp only [Prod.mk.injEq, and_true] at e
    subst e
    simp [wsOf, wtW, sumW]
  | p :: L, t, r, h => by
    have e : dotFrom t (countsOf (p :: L)) (roomsOf (p :: L)) = bif (mulOf p.2 (roomOf p.1)).2 then (bif (addOf t (mulOf p.2 (roomOf p.1)).1).2 then dotFrom (addOf t (mulOf p.2 (roomOf p.1)).1).1 (countsOf L) (roomsOf L) else (0, false)) else (0, false) := rfl
    rw [e] at h
    have e1 : wtW (wsOf (p :: L)) = p.2 * (((syms p.1).length - 1 : Nat) : Int) + wtW (wsOf L) := rfl
    rw [e1, syms_len]
    unfold mulOf at h
    split at h
    · simp only [cond_true] at h
      unfold addOf at h
      split at h
      · rename_i h2
        simp only [cond_true] at h
        obtain ⟨a, b⟩ := dot_wt L _ r h
        unfold roomOf at a h2
        exact ⟨by omega, fun _ => b h2.2.2⟩
      · simp only [cond_false, Prod.mk.injEq] at h
        exact absurd h.2 (by decide)
    · simp only [cond_false, Prod.mk.injEq] at h
      exact absurd h.2 (by decide)
set_option maxRecDepth 100000 in
/-- What a right table is. -/
theorem right_facts {L : Bag} (h : (checkOf L).2 = 0) : (∀ p ∈ L, 1 ≤ p.1.size ∧ 1 ≤ p.2) ∧ weighOf L = (wtW (wsOf L), true) ∧ wtW (wsOf L) ≤ 9223372036854775807 := by
  unfold checkOf at h
  split at h
  · rename_i k e he
    simp only at h
    subst h
    have : ∀ (L : Bag) (k : Nat) (o : Option (ByteArray × Int)) (j : Nat), checkFrom k o L ≠ some (j, 0) := by
      intro L
      induction L with
      | nil => intro k o j h; cases h
      | cons p r ih =>
        intro k o j h
        rw [checkFrom] at h
        split at h
        · exact ih _ _ _ h
        · rename_i h0
          simp only [Option.some.injEq, Prod.mk.injEq] at h
          exact h0 h.2
    exact absurd he (this _ _ _ _)
  · rename_i he
    have h1 := check_each L 0 none he
    cases hb : (weighOf L).2 with
    | false => rw [hb] at h; simp at h
    | true =>
      have h2 : weighOf L = ((weighOf L).1, true) := by rw [← hb]
      obtain ⟨a, b⟩ := dot_wt L 0 (weighOf L).1 h2
      rw [Int.zero_add] at a
      refine ⟨fun p hp => ?_, by rw [h2, a], by rw [← a]; exact b (by decide)⟩
      have := h1 p hp
      unfold wrongW at this
      split at this
      · cases this
      · omega
set_option maxRecDepth 100000 in
theorem wt_take {ws : List Wd} (h : ∀ x ∈ ws, 1 ≤ x.2) (k : Nat) : wtW (ws.take k) ≤ wtW ws := by
  have e : wtW (ws.take k) + wtW (ws.drop k) = wtW ws := by
    unfold wtW; rw [← sumW_app, List.take_append_drop]
  have := sumW_nonneg (g := fun x => x.2 * ((x.1.length - 1 : Nat) : Int)) (ws := ws.drop k) fun x hx => mulz (by have := h x (List.mem_of_mem_drop hx); omega) (by omega)
  unfold wtW at e ⊢
  omega
set_option maxRecDepth 100000 in
theorem len_take (ws : List Wd) (k : Nat) : lenW (ws.take k) ≤ lenW ws := by
  have e : lenW (ws.take k) + lenW (ws.drop k) = lenW ws := by
    unfold lenW; rw [← sumW_app, List.take_append_drop]
  have := sumW_nonneg (g := fun x : Wd => (x.1.length : Int)) (ws := ws.drop k) fun x _ => by omega
  unfold lenW at e ⊢
  omega
set_option maxRecDepth 100000 in
theorem ws_pos {L : Bag} (h : ∀ p ∈ L, 1 ≤ p.1.size ∧ 1 ≤ p.2) : ∀ x ∈ wsOf L, 1 ≤ x.2 := fun x hx => by
  obtain ⟨p, hp, rfl⟩ := List.mem_map.1 hx
  exact (h p hp).2
set_option maxRecDepth 100000 in
theorem GoodM.weaken {M : Mdl} {s : Int} {had had' : Int × Int → Int → Prop} (h : GoodM M s had) (k : ∀ q z, had q z → had' q z) : GoodM M s had' := { h with was := fun q z hz => k q z (h.was q z hz) }
/-- Who has which pair. -/
def hasW (ws : List Wd) (q : Int × Int) (z : Int) : Prop := ∃ (j : Nat) (X : List Int) (t : Int), z = (j : Int) ∧ ws[j]? = some (X, t) ∧ 0 < cntP X q
set_option maxRecDepth 100000 in
theorem hasW_take {ws : List Wd} {k : Nat} {X : List Int} {c : Int} (hk : k < ws.length) (hx : ws[k] = (X, c)) {q : Int × Int} {z : Int} (h : hasW (ws.take k) q z ∨ (z = ((ws.take k).length : Int) ∧ 0 < cntP X q)) : hasW (ws.take (k + 1)) q z := by
  rw [List.take_succ_eq_append_getElem hk]
  rcases h with ⟨j, X2, t2, e, hj, hc⟩ | ⟨e, hc⟩
  · exact ⟨j, X2, t2, e, by rw [List.getElem?_append_left (List.getElem?_eq_some_iff.1 hj).1]; exact hj, hc⟩
  · exact ⟨(ws.take k).length, X, c, e, by simp [hx], hc⟩
end Go.Proofs.YtejcemmhhpbchaaGreat
/- An index made of a table. -/
namespace Go.Proofs.YtejcemmhhpbchaaGreat
open Go.RowKit Go.Maps

/-- What New tells, and leaves. -/
def NewRet (L : Bag) (w : World) (e : Ending) (w' : World) : Prop :=
  Below w.heap.size w w' ∧ (((checkOf L).2 ≠ 0 ∧ e = .returned (.tuple #[.pointer none, .int .i64 (checkOf L).2])) ∨
    ((checkOf L).2 = 0 ∧ ∃ (K : Nat) (lab : Nat → Lab) (V : Int × Int → Value) (M : Mdl), e = .returned (.tuple #[.pointer (some ⟨K, 0, none⟩), .int .i64 0]) ∧ IxM w' lab K 200000 V M ∧ GoodM M 256 (hasW (wsOf L)) ∧ M.ws = wsOf L ∧ M.pos = (bytesOf L : Int) ∧ M.tou = 0 ∧ ∀ i, i < w.heap.size → lab i = .no))
def NewRel (L : Bag) (w : World) (K : Nat) (i : Value) (wr : World) : Prop :=
  ∃ (k : Nat) (lab : Nat → Lab) (V : Int × Int → Value) (M : Mdl), i = .int .i64 (k : Int) ∧ k ≤ L.length ∧ IxM wr lab K (1000 * k) V M ∧ GoodM M 256 (hasW ((wsOf L).take k)) ∧ M.ws = (wsOf L).take k ∧ M.pos = (bytesOf L : Int) ∧ M.tou = 0 ∧ Below w.heap.size w wr ∧ ∀ i, i < w.heap.size → lab i = .no
set_option maxRecDepth 100000 in
/-- A new index. -/
theorem new_ix {w w1 : World} {P : Int} (hb : Below ((w.alloc (.cells #[.map none] 91)).alloc (.map #[] 0)).heap.size ((w.alloc (.cells #[.map none] 91)).alloc (.map #[] 0)) w1) :
    ∃ (lab : Nat → Lab) (V : Int × Int → Value) (M : Mdl), IxM (w1.alloc (.cells #[.slice none 0 0, .pointer (some ⟨w.heap.size, 0, none⟩), .map (some (w.heap.size + 1)), .int .i64 P, .int .i64 0] 68)) lab w1.heap.size 0 V M ∧ GoodM M 256 (fun _ _ => False) ∧ M.ws = [] ∧ M.pos = P ∧ M.tou = 0 ∧ ∀ i, i < w.heap.size → lab i = .no := by
  obtain ⟨wa, hwa⟩ : ∃ wa, wa = w.alloc (.cells #[.map none] 91) := ⟨_, rfl⟩
  have hsa : wa.heap.size = w.heap.size + 1 := by rw [hwa]; simp
  rw [← hwa] at hb
  obtain ⟨wb, hwb⟩ : ∃ wb, wb = wa.alloc (.map #[] 0) := ⟨_, rfl⟩
  have hsb : wb.heap.size = wa.heap.size + 1 := by rw [hwb]; simp
  rw [← hwb] at hb
  have hcA : Cts wa w.heap.size none [] := by rw [hwa]; exact new_cts w
  have hvB : VMap wb (w.heap.size + 1) 0 (fun _ => nilV) := by rw [hwb, ← hsa]; exact vmap_made wa
  have hcB : Cts wb w.heap.size none [] := by rw [hwb]; exact hcA.alloc _
  have hz := hb.size
  have hc1 := hcB.below hb
  have hv1 := hvB.kept (hb.block (w.heap.size + 1) (by omega))
  have e2 : ∀ {i}, i < w1.heap.size → (w1.alloc (.cells #[.slice none 0 0, .pointer (some ⟨w.heap.size, 0, none⟩), .map (some (w.heap.size + 1)), .int .i64 P, .int .i64 0] 68)).heap[i]? = w1.heap[i]? := fun hi => Below.heap_alloc _ _ _ hi
  refine ⟨fun i => if i = w1.heap.size then .idx else if i = w.heap.size then .cts else if i = w.heap.size + 1 then .pmap else .no, fun _ => nilV, ⟨[], [], fun _ => [], P, 0⟩, ⟨.slice none 0 0, w.heap.size, none, w.heap.size + 1, [], heap_alloc_new w1 _, ownE.nil _ _, rfl, fun j X t hj => by simp at hj, hc1.alloc _, hv1.kept (e2 (by omega)), fun q => ownE.nil _ _, by simp, fun g hg => (by cases hg), ?_, fun g hg => (by cases hg), ?_, fun q g hg => (by cases hg), fun i hi => ?_⟩, GoodM.start rfl rfl fun _ => rfl, rfl, rfl, rfl, fun i hi => ?_⟩
  · simp [show ¬ w.heap.size = w1.heap.size by omega]
  · simp [show ¬ w.heap.size + 1 = w1.heap.size by omega]
  · rw [World.size_alloc] at hi
    simp [show ¬ i = w1.heap.size by omega, show ¬ i = w.heap.size by omega, show ¬ i = w.heap.size + 1 by omega]
  · simp [show ¬ i = w1.heap.size by omega, show ¬ i = w.heap.size by omega, show ¬ i = w.heap.size + 1 by omega]
set_option maxRecDepth 100000 in
set_option maxHeartbeats 8000000 in
theorem xnew_any (v : Value) (L : Bag) (w : World) (hv : wordsAt w v L) (hf : Fits L) (hL : L.length ≤ 100) (hP : bytesOf L ≤ 1000) :
    Calls Tryz.prog 7 #[v] w fun e w' => NewRet L w e w' := by
  have HV := Lib.hid hv; have HF := Lib.hid hf; have HP := Lib.hid hP
  have cK := check_any v L w hv (by omega) hf
  obtain ⟨a, cap, rfl, _⟩ := hv
  obtain ⟨⟨z, er⟩, hch⟩ : ∃ r, checkOf L = r := ⟨_, rfl⟩
  rw [hch] at cK
  have HCH := Lib.hid hch
  clear hf hch
  by_cases h0 : er = 0
  · subst h0
    go_enter Tryz.func7, Tryz.ntmps7
    go_wp2_with fail
    refine cK.mono ?_
    rintro e w1 ⟨rfl, hb1⟩
    have HB1 := Lib.hid hb1
    have HV1 := Lib.hid (HV.out.below hb1 (Nat.le_refl _))
    obtain ⟨wa, hwa⟩ : ∃ wa, wa = w1.alloc (.cells #[.map none] 91) := ⟨_, rfl⟩
    obtain ⟨wb, hwb⟩ : ∃ wb, wb = wa.alloc (.map #[] 0) := ⟨_, rfl⟩
    obtain ⟨kc, hkc⟩ : ∃ kc, w1.heap.size = kc := ⟨_, rfl⟩
    have hsa : wa.heap.size = kc + 1 := by rw [hwa, ← hkc]; simp
    have HBB : Hid (Below w1.heap.size w1 wb) := Lib.hid (by rw [hwb, hwa]; exact ((Below.refl _ w1).alloc (Nat.le_refl _) _).alloc (by rw [World.size_alloc]; omega) _)
    have HPL := Lib.hid (positions_any _ L wb (HV1.out.below HBB.out (Nat.le_refl _)) (by omega) (by omega))
    have hmm := @run_makeMap Tryz.prog
    have HWA := Lib.hid hwa; have HWB := Lib.hid hwb; have HKC := Lib.hid hkc; have HSA := Lib.hid hsa
    have hwa' := hwa.symm
    have hwb' := hwb.symm
    clear hb1 cK hwa hwb
    go_wp2_with (first | (go_at_call 26; refine (dnew_any _).mono ?_; rintro e w2 ⟨rfl, rfl⟩) | (go_at_call 27; with_reducible refine HPL.out.mono ?_; rintro e w4 ⟨rfl, hb4⟩; have HB4 := Lib.hid hb4; clear hb4))
    obtain ⟨K, hK⟩ : ∃ K, w4.heap.size = K := ⟨_, rfl⟩
    obtain ⟨w5, hw5⟩ : ∃ w5, w5 = w4.alloc (.cells #[.slice none 0 0, .pointer (some ⟨kc, 0, none⟩), .map (some (kc + 1)), .int .i64 (bytesOf L : Int), .int .i64 0] 68) := ⟨_, rfl⟩
    have HRT := Lib.hid (right_facts (L := L) (by rw [HCH.out]))
    have H5 : Hid (NewRel L w K (.int .i64 0) w5) := Lib.hid (by
      have hb4 := HB4.out
      rw [HWB.out, HWA.out] at hb4
      obtain ⟨lab, V, M, i1, i2, i3, i4, i5, i6⟩ := new_ix (w := w1) (w1 := w4) (P := (bytesOf L : Int)) hb4
      rw [HKC.out, hK, ← hw5] at i1
      have b4 : Below w.heap.size w w4 := HB1.out.trans ((HBB.out.trans (HB4.out.mono HBB.out.size)).mono HB1.out.size)
      refine ⟨0, lab, V, M, rfl, Nat.zero_le _, i1.mono (by omega), i2.weaken fun _ _ h => h.elim, by rw [i3]; rfl, i4, i5, ?_, fun i hi => i6 i (by have := HB1.out.size; omega)⟩
      rw [hw5]
      exact b4.alloc b4.size _)
    rw [hK, ← hw5]
    obtain ⟨n, hn⟩ : ∃ n, L.length = n := ⟨_, rfl⟩
    have HNN := Lib.hid hn
    rw [hn] at HV ⊢
    have hn100 : n ≤ 100 := by omega
    clear hw5 hK hmm hwa' hwb' hkc hsa hn hL hP
    go_loopw [25] (fun i wr => NewRel L w K i wr) (fun i _ => n + 1 - (intOf i).toNat)
    case atStart => exact H5.out
    case round =>
      obtain ⟨k, lab, V, M, rfl, hk, hM, hG, hws, hpos, htou, hbel, hno⟩ := hrel
      rw [HNN.out] at hk
      have HM := Lib.hid hM; have HG := Lib.hid hG; have HWS := Lib.hid hws; have HPS := Lib.hid hpos; have HTU := Lib.hid htou; have HBL := Lib.hid hbel; have HNO := Lib.hid hno
      clear hM hG hws hpos htou hbel hno H5
      by_cases hgo : k < n
      · have hkI : (k : Int) < (n : Int) := by omega
        have hkL : k < L.length := by rw [HNN.out]; exact hgo
        have hkW : k < (wsOf L).length := by rw [ws_len]; exact hkL
        obtain ⟨ad, rfl⟩ : ∃ ad, a = some ad := by
          obtain ⟨_, _, e, hc⟩ := HV.out
          obtain ⟨ad, e2, _⟩ := hc k hkL
          exact ⟨ad, (Value.slice.inj e).1.trans e2⟩
        obtain ⟨x0, x1⟩ := words_at HV.out HBL.out hkL
        obtain ⟨⟨s, c⟩, hp⟩ : ∃ p, L[k] = p := ⟨_, rfl⟩
        rw [hp] at x0 x1
        simp only at x0 x1
        have hpr := HRT.out.1 _ (List.getElem_mem hkL)
        rw [hp] at hpr
        simp only at hpr
        have hwk : (wsOf L)[k] = (syms s, c) := by simp [wsOf, hp]
        have hsz : s.size ≤ 1000 := by
          have h1 := bytes_step hkL
          have h2 := bytes_le L (k + 1)
          rw [hp] at h1
          simp only at h1
          have := HP.out; omega
        have htk : (wsOf L).take (k + 1) = (wsOf L).take k ++ [(syms s, c)] := by rw [List.take_succ_eq_append_getElem hkW, hwk]
        have hwp := ws_pos HRT.out.1
        obtain ⟨wx, hwx⟩ : ∃ wx, wx = wr.alloc (.cells #[.string s, .int .i64 c] 58) := ⟨_, rfl⟩
        have bx : Below wr.heap.size wr wx := by rw [hwx]; exact (Below.refl _ wr).alloc (Nat.le_refl _) _
        have hcn : M.cnt.length ≤ 400000 := by
          have h1 := cn_len HG.out.cnt HG.out.pos HG.out.tells
          have h2 := len_take (wsOf L) k
          have h3 := ws_bytes L
          rw [HWS.out] at h1
          have := HP.out; omega
        have HCA := Lib.hid (xword_any K (1000 * k) lab V M _ s c wx (HM.out.below bx) HG.out hsz hpr.2 (by rw [HWS.out, ← htk]; exact Int.le_trans (wt_take hwp _) HRT.out.2.2) (by rw [HWS.out, List.length_take, ws_len]; omega) (by omega) hcn)
        have HBX := Lib.hid bx; have HTK := Lib.hid htk; have HWK : Hid (∀ h : k < (wsOf L).length, (wsOf L)[k] = (syms s, c)) := Lib.hid fun _ => hwk
        have HKW := Lib.hid hkW
        have hwx' := hwx.symm
        have y0 : wx.cell? ⟨wr.heap.size, 0, none⟩ = some (.string s) := by rw [hwx]; simp
        have y1 : wx.cell? ⟨wr.heap.size, 1, none⟩ = some (.int .i64 c) := by rw [hwx]; simp
        clear hkW hp hpr hwk hsz htk hwp hwx bx hcn hkL
        go_wp2_with fail
        refine HCA.out.mono ?_
        rintro e w6 ⟨rfl, lab6, V6, M6, hM6, hx6, hG6, hws6, hpos6, htou6⟩
        go_wp2_with fail
        go_roundw
        case rel =>
          have hxx := (XRet.below HBX.out).trans hx6
          refine ⟨k + 1, lab6, V6, M6, by simp, by rw [HNN.out]; omega, hM6.mono (by omega), hG6.weaken fun q z h => hasW_take HKW.out (HWK.out HKW.out) (by rw [HWS.out] at h; exact h), by rw [hws6, HWS.out, HTK.out], hpos6.trans HPS.out, htou6.trans HTU.out, HBL.out.trans (hxx.kept.below HBL.out.size fun i hi => ?_), fun i hi => (hxx.out (by have := HBL.out.size; omega) (HNO.out i hi)).1⟩
          refine Classical.byContradiction fun hlt => hi (HNO.out i (by omega))
        case measure => simp [intOf] <;> omega
      · have hkI : ¬ (k : Int) < (n : Int) := by omega
        obtain rfl : k = n := by omega
        go_wp2_with fail
        go_ret2
        have hall : (wsOf L).take k = wsOf L := List.take_of_length_le (by rw [ws_len, HNN.out]; exact Nat.le_refl _)
        refine ⟨HBL.out, .inr ⟨by rw [HCH.out], K, lab, V, M, rfl, HM.out.mono (by omega), by have := HG.out; rw [hall] at this; exact this, by rw [HWS.out, hall], HPS.out, HTU.out, HNO.out⟩⟩
  · have hne : (er == 0) = false := by simp [h0]
    have H0 := Lib.hid h0
    clear h0
    go_enter Tryz.func7, Tryz.ntmps7
    go_wp2_with fail
    refine cK.mono ?_
    rintro e w1 ⟨rfl, hb1⟩
    have HB1 := Lib.hid hb1
    clear hb1 cK
    go_wp2_with fail
    go_ret2
    refine ⟨HB1.out, .inl ⟨by rw [HCH.out]; exact H0.out, by rw [HCH.out]; rfl⟩⟩
end Go.Proofs.YtejcemmhhpbchaaGreat
/- The laws' own small functions: the same pairs; is there more than is looked at; an index of the call's own. -/
namespace Go.Proofs.YtejcemmhhpbchaaGreat
open Go.RowKit Go.Maps

set_option maxRecDepth 100000 in
theorem xpair_ne (a b : Int) (w : World) : (binOp .neq 37 (.agg #[.int .i64 a, .int .i64 b]) (.agg #[.int .i64 a, .int .i64 b])).run Tryz.prog w = .ok (.bool false) w := by
  have u32 := Tryz.underlying37
  have u3 := Tryz.underlying3
  simp [go_sem, u32, u3]
def XSRel (n : Nat) (w : World) (i : Value) (wr : World) : Prop := ∃ k m : Nat, i = .int .i64 (k : Int) ∧ k ≤ n ∧ wr = w.drewN m
set_option maxRecDepth 100000 in
set_option maxHeartbeats 2000000 in
theorem xsame_true (v x : Value) (L : List (Int × Int)) (w : World) (hv : eltsAt pairE w v L) (hx : eltsAt pairE w x L) (hL : L.length ≤ 1000000) :
    Calls Tryz.prog 12 #[v, x] w fun e w' => e = .returned (.bool true) ∧ Below w.heap.size w w' := by
  have HV := Lib.hid hv
  have HX := Lib.hid hx
  obtain ⟨a, cap, rfl, hc⟩ := hv
  obtain ⟨b, cap2, rfl, hd⟩ := hx
  have HC := Lib.hid hc
  have HD := Lib.hid hd
  clear hc hd
  obtain ⟨N, hN⟩ : ∃ N, L.length = N := ⟨_, rfl⟩
  have HN := Lib.hid hN
  rw [hN] at HV HX hL ⊢
  clear hN
  go_enter Tryz.func12, Tryz.ntmps12
  go_wp2
  go_loopw [5] (fun i wr => XSRel N w i wr) (fun i _ => N + 1 - (intOf i).toNat)
  case atStart => exact ⟨0, 0, rfl, by omega, rfl⟩
  case round =>
    obtain ⟨k, m, rfl, hk, hw⟩ := hrel
    have HW := Lib.hid hw
    have HB : Hid (Below w.heap.size w wr) := Lib.hid (by rw [hw]; exact below_drewN' (Below.refl _ _) _)
    clear hw
    by_cases hgo : k < N
    · have hkI : (k : Int) < (N : Int) := by omega
      have hkL : k < L.length := by rw [HN.out]; exact hgo
      obtain ⟨ad, rfl, hx1⟩ := HC.out k hkL
      obtain ⟨ae, rfl, hx2⟩ := HD.out k hkL
      obtain ⟨c0, c1⟩ := pairs_at HV.out HB.out hkL
      obtain ⟨d0, d1⟩ := pairs_at HX.out HB.out hkL
      obtain ⟨z0, z1, hz⟩ : ∃ z0 z1, L[k] = (z0, z1) := ⟨_, _, rfl⟩
      rw [hz] at c0 c1 d0 d1
      simp only at c0 c1 d0 d1
      have hne := xpair_ne z0 z1
      clear hz hx1 hx2 hkL
      go_wp2
      go_quiet (fail)
      go_wp2
      go_roundw
      case rel => exact ⟨k + 1, m + nq, by simp, hgo, by rw [HW.out, World.drewN_drewN]⟩
      case measure => simp [intOf] <;> omega
    · have hkI : ¬ (k : Int) < (N : Int) := by omega
      go_wp2
      go_ret
      exact ⟨rfl, HB.out⟩
/-- Are there more words, or longer ones, or more bytes? -/
def XGreat (L : Bag) (w : World) (e : Ending) (w' : World) : Prop := ∃ g, e = .returned (.bool g) ∧ w' = w ∧ (g = false → L.length ≤ 60 ∧ bytesOf L ≤ 400)
set_option maxRecDepth 100000 in
set_option maxHeartbeats 2000000 in
theorem xgreat_any (v : Value) (L : Bag) (w : World) (hv : wordsAt w v L) (hL : L.length ≤ 9223372036854775807) :
    Calls Tryz.prog 6 #[v] w fun e w' => XGreat L w e w' := by
  have HV := Lib.hid hv
  have cG := great_any v L 60 w hv hL
  rw [show ((60 : Nat) : Int) = 60 from rfl] at cG
  obtain ⟨a, cap, rfl, _⟩ := hv
  go_enter Tryz.func6, Tryz.ntmps6
  go_wp2_with fail
  refine cG.mono ?_
  rintro e w1 ⟨g, rfl, rfl, hg⟩
  cases g with
  | true =>
    go_wp2
    go_ret
    exact ⟨true, rfl, rfl, fun h => by cases h⟩
  | false =>
    obtain ⟨h1, h2⟩ := hg rfl
    have hb := bytes_few h2
    have HLL := Lib.hid h1
    have cP := refPositions_any _ L w1 HV.out hL (by omega)
    obtain ⟨n, hn⟩ : ∃ n, bytesOf L = n := ⟨_, rfl⟩
    have HN := Lib.hid hn
    rw [hn] at cP
    clear hg h1 h2 hb cG hn
    go_wp2_with fail
    refine cP.mono ?_
    rintro e w2 ⟨rfl, rfl⟩
    clear cP
    by_cases hb : n ≤ 400
    · have hd : decide ((400 : Int) < (n : Int)) = false := decide_eq_false (by omega)
      go_wp2
      go_ret
      exact ⟨false, by simp, rfl, fun _ => ⟨HLL.out, by rw [HN.out]; exact hb⟩⟩
    · have hd : decide ((400 : Int) < (n : Int)) = true := decide_eq_true (by omega)
      go_wp2
      go_ret
      exact ⟨true, by simp, rfl, fun h => by cases h⟩
/-- An index of the call's own: none of its blocks was there when the call began. -/
structure XO (w : World) (lab : Nat → Lab) (K N : Nat) (V : Int × Int → Value) (M : Mdl) (wr : World) : Prop where
  ix : IxM wr lab K N V M
  bel : Below w.heap.size w wr
  no : ∀ i, i < w.heap.size → lab i = .no
set_option maxRecDepth 100000 in
theorem XO.step {w w1 w2 : World} {lab lab2 : Nat → Lab} {K N N2 : Nat} {V V2 : Int × Int → Value} {M M2 : Mdl} (h : XO w lab K N V M w1) (hi : IxM w2 lab2 K N2 V2 M2) (hx : XRet lab w1 lab2 w2) : XO w lab2 K N2 V2 M2 w2 := by
  have hz := h.bel.size
  refine ⟨hi, h.bel.trans (hx.kept.below hz fun i hm => ?_), fun i hi => (hx.out (by omega) (h.no i hi)).1⟩
  refine Classical.byContradiction fun k => hm (h.no i (by omega))
set_option maxRecDepth 100000 in
theorem XO.below {w w1 w2 : World} {lab : Nat → Lab} {K N : Nat} {V : Int × Int → Value} {M : Mdl} (h : XO w lab K N V M w1) (hb : Below w1.heap.size w1 w2) : XO w lab K N V M w2 := h.step (h.ix.below hb) (XRet.below hb)
end Go.Proofs.YtejcemmhhpbchaaGreat
/- The document's example. -/
namespace Go.Proofs.YtejcemmhhpbchaaGreat
open Go.RowKit Go.Maps

def exL : Bag := [(⟨#[97, 98]⟩, 2), (⟨#[99, 97, 98]⟩, 1)]
def exY : List (Int × Int) := [(97, 98), (99, 97), (99, 256)]
set_option maxRecDepth 100000 in
theorem ex_check : checkOf exL = (-1, 0) := by rfl
set_option maxRecDepth 100000 in
theorem ex_ws : wsOf exL = [([97, 98], 2), ([99, 97, 98], 1)] := by rfl
set_option maxRecDepth 100000 in
theorem ex_merge : mergeWs (97, 98) 256 (wsOf exL) = [([256], 2), ([99, 256], 1)] := by rfl
set_option maxRecDepth 100000 in
theorem ex_set {Y : List (Int × Int)} (h1 : Y.Pairwise pb) (h2 : ∀ q, q ∈ Y ↔ totW (mergeWs (97, 98) 256 (wsOf exL)) q ≠ totW (wsOf exL) q) : Y = exY := by
  refine rising_unique (fun _ _ h => pb_asymm h) (fun q => ?_) h1 (by simp [exY, pb])
  rw [h2, ex_merge, ex_ws]
  simp only [totW, sumW, cntP, exY, List.mem_cons, List.not_mem_nil, or_false]
  by_cases a : q = (97, 98)
  · subst a; decide
  · by_cases b : q = (99, 97)
    · subst b; decide
    · by_cases c : q = (99, 256)
      · subst c; decide
      · have n1 : ¬ ((97, 98) : Int × Int) = q := fun e => a e.symm
        have n2 : ¬ ((99, 97) : Int × Int) = q := fun e => b e.symm
        have n3 : ¬ ((99, 256) : Int × Int) = q := fun e => c e.symm
        simp only [if_neg n1, if_neg n2, if_neg n3]
        simp [a, b, c]
set_option maxRecDepth 100000 in
theorem ex_read (w : World) : wordsAt (w.alloc (.cells #[.string ⟨#[97, 98]⟩, .int .i64 2, .string ⟨#[99, 97, 98]⟩, .int .i64 1] 58)) (.slice (some ⟨w.heap.size, 0, none⟩) 2 2) exL := two_words w _ _ _ _
set_option maxRecDepth 100000 in
theorem three_pairs (w : World) : eltsAt pairE (w.alloc (.cells #[.int .i64 97, .int .i64 98, .int .i64 99, .int .i64 97, .int .i64 99, .int .i64 256] 37)) (.slice (some ⟨w.heap.size, 0, none⟩) 3 3) exY := by
  have h : rowE pairE (w.alloc (.cells #[.int .i64 97, .int .i64 98, .int .i64 99, .int .i64 97, .int .i64 99, .int .i64 256] 37)) w.heap.size exY := ⟨_, heap_alloc_new w _, rfl⟩
  exact (h.own (b := 0) (Nat.zero_le _) (by decide)).reads
set_option maxRecDepth 100000 in
set_option maxHeartbeats 4000000 in
theorem xawake_any (w : World) : Calls Tryz.prog 5 #[] w fun e w' => e = .returned (.bool true) ∧ Below w.heap.size w w' := by
  have hf : FitsPr (97, 98) := by unfold FitsPr; simp
  have HF := Lib.hid hf
  obtain ⟨w1, hw1⟩ : ∃ w1, w1 = w.alloc (.cells #[.string ⟨#[97, 98]⟩, .int .i64 2, .string ⟨#[99, 97, 98]⟩, .int .i64 1] 58) := ⟨_, rfl⟩
  have HB1 : Hid (Below w.heap.size w w1) := Lib.hid (by rw [hw1]; exact (Below.refl _ w).alloc (Nat.le_refl _) _)
  have cN := xnew_any (.slice (some ⟨w.heap.size, 0, none⟩) 2 2) exL w1 (by rw [hw1]; exact ex_read w) (fun p hp => by
    simp only [exL, List.mem_cons, List.not_mem_nil, or_false] at hp
    rcases hp with rfl | rfl <;> (refine ⟨?_, ?_, ?_⟩ <;> decide)) (by decide) (by decide)
  have hw1' := hw1.symm
  clear hw1 hf
  go_enter Tryz.func5, Tryz.ntmps5
  go_wp2_with fail
  refine cN.mono ?_
  rintro e w2 ⟨hb2, ⟨hno, _⟩ | ⟨_, K, lab, V, M, rfl, hM, hG, hws, hpos, htou, hlab⟩⟩
  · exact absurd (by rw [ex_check]) hno
  have HO2 : Hid (XO w lab K 200000 V M w2) := Lib.hid ⟨hM, HB1.out.trans (hb2.mono HB1.out.size), fun i hi => hlab i (by have := HB1.out.size; omega)⟩
  have HG := Lib.hid hG; have HWS := Lib.hid hws; have HPS := Lib.hid hpos; have HTU := Lib.hid htou
  obtain ⟨bx, hbx⟩ : ∃ bx, w2.heap.size = bx := ⟨_, rfl⟩
  obtain ⟨w3, hw3⟩ : ∃ w3, w3 = w2.alloc (.cells #[.int .i64 97, .int .i64 98] 37) := ⟨_, rfl⟩
  have b3 : Below w2.heap.size w2 w3 := by rw [hw3]; exact (Below.refl _ w2).alloc (Nat.le_refl _) _
  have HO3 := Lib.hid (HO2.out.below b3)
  have HX3 : Hid (w3.heap[bx]? = some (.cells #[.int .i64 97, .int .i64 98] 37 (0, 0)) ∧ lab bx = .no) := Lib.hid ⟨by rw [hw3, ← hbx]; exact heap_alloc_new w2 _, HO2.out.ix.fresh (by omega)⟩
  obtain ⟨y0, y1⟩ : w3.cell? ⟨bx, 0, none⟩ = some (.int .i64 97) ∧ w3.cell? ⟨bx, 1, none⟩ = some (.int .i64 98) := by
    refine ⟨?_, ?_⟩ <;> (rw [cell_of_row w3 bx _ _ 37 (0, 0) HX3.out.1]; rfl)
  have cC := xcount_any K 200000 lab V M 97 98 w3 HO3.out.ix HF.out
  rw [HG.out.tells, HWS.out, show totW (wsOf exL) (97, 98) = 3 from rfl] at cC
  have hw3' := hw3.symm
  clear hM hG hws hpos htou hlab hb2 cN hw1' hw3 b3
  go_wp2_with fail
  refine cC.mono ?_
  rintro e w4 ⟨rfl, hb4⟩
  have HO4 := Lib.hid (HO3.out.below hb4)
  have HX4 : Hid (w4.heap[bx]? = some (.cells #[.int .i64 97, .int .i64 98] 37 (0, 0))) := Lib.hid ((hb4.block bx (Array.getElem?_eq_some_iff.1 HX3.out.1).1).trans HX3.out.1)
  have hMg := xmerge_any K 200000 lab V M 97 98 256 _ w4 HO4.out.ix HG.out HF.out (by decide) (by rw [HWS.out]; decide) (by rw [HWS.out]; decide) (by rw [HPS.out]; decide) (by rw [HTU.out]; decide) (by decide) (by
    have h1 := cn_len HG.out.cnt HG.out.pos HG.out.tells
    rw [HWS.out, show lenW (wsOf exL) = 5 from rfl] at h1; omega)
  clear y0 y1 cC hbx hb4 hw3'
  obtain ⟨y0, y1⟩ : w4.cell? ⟨bx, 0, none⟩ = some (.int .i64 97) ∧ w4.cell? ⟨bx, 1, none⟩ = some (.int .i64 98) := by
    refine ⟨?_, ?_⟩ <;> (rw [cell_of_row w4 bx _ _ 37 (0, 0) HX4.out]; rfl)
  go_wp2_with fail
  refine hMg.mono ?_
  rintro e w5 ⟨T, r, Y, lab5, V5, M5, rfl, ho5, hY, hiff, hr5, hM5, hx5, hws5, hG5, _, hsum, _⟩
  have HO5 := Lib.hid (HO4.out.step hM5 hx5)
  have hYe : Y = exY := ex_set hY (fun q => by rw [hiff, hG5.tells, HG.out.tells, hws5, HWS.out])
  have hT : T = 2 := by
    rw [hws5, HWS.out, show lenW (mergeWs (97, 98) 256 (wsOf exL)) = 3 from rfl, show lenW (wsOf exL) = 5 from rfl] at hsum
    omega
  subst hT
  rw [hYe] at ho5
  have HX5 : Hid (w5.heap[bx]? = some (.cells #[.int .i64 97, .int .i64 98] 37 (0, 0))) := Lib.hid ((hx5.out (Array.getElem?_eq_some_iff.1 HX4.out).1 HX3.out.2).2.trans HX4.out)
  have HR := Lib.hid ho5.reads
  clear y0 y1 hMg ho5 hY hiff hr5 hM5 hx5 hws5 hG5 hsum hYe
  obtain ⟨y0, y1⟩ : w5.cell? ⟨bx, 0, none⟩ = some (.int .i64 97) ∧ w5.cell? ⟨bx, 1, none⟩ = some (.int .i64 98) := by
    refine ⟨?_, ?_⟩ <;> (rw [cell_of_row w5 bx _ _ 37 (0, 0) HX5.out]; rfl)
  obtain ⟨w6, hw6⟩ : ∃ w6, w6 = w5.alloc (.cells #[.int .i64 97, .int .i64 98, .int .i64 99, .int .i64 97, .int .i64 99, .int .i64 256] 37) := ⟨_, rfl⟩
  have b6 : Below w5.heap.size w5 w6 := by rw [hw6]; exact (Below.refl _ w5).alloc (Nat.le_refl _) _
  have HB6 : Hid (Below w.heap.size w w6) := Lib.hid (HO5.out.below b6).bel
  have HCS := Lib.hid (xsame_true r (.slice (some ⟨w5.heap.size, 0, none⟩) 3 3) exY w6 (HR.out.below b6 (Nat.le_refl _)) (by rw [hw6]; exact three_pairs w5) (by decide))
  have hw6' := hw6.symm
  clear b6 hw6
  go_wp2_with fail
  refine HCS.out.mono ?_
  rintro e w7 ⟨rfl, hb7⟩
  have HB7 : Hid (Below w.heap.size w w7) := Lib.hid (HB6.out.trans (hb7.mono HB6.out.size))
  clear hb7
  go_wp2
  go_ret
  exact ⟨rfl, HB7.out⟩
end Go.Proofs.YtejcemmhhpbchaaGreat
/- What the laws of an index want, plain; a nil index merged. -/
namespace Go.Proofs.YtejcemmhhpbchaaGreat
open Go.RowKit Go.Maps

set_option maxRecDepth 100000 in
theorem GoodM.up {M : Mdl} {s s' : Int} {had : Int × Int → Int → Prop} (h : GoodM M s had) (hs : s ≤ s') (hb : s' ≤ 1000000) : GoodM M s' had :=
  { h with sb := ⟨Int.le_trans h.sb.1 hs, hb⟩, syms := fun x hx y hy => by have := h.syms x hx y hy; omega, new := fun q hq => by have := h.new q hq; omega }
set_option maxRecDepth 100000 in
theorem take_sum (p : Int × Int) (s : Int) (ws : List Wd) : lenW (mergeWs p s ws) + sumW (fun x => (timesL p x.1 : Int)) ws = lenW ws := by
  induction ws with
  | nil => rfl
  | cons x r ih =>
    have h := pmerge_len (p := p) (s := s) x.1
    have e1 : lenW (mergeWs p s (x :: r)) = ((mergeL p s x.1).length : Int) + lenW (mergeWs p s r) := rfl
    have e2 : lenW (x :: r) = (x.1.length : Int) + lenW r := rfl
    rw [e1, e2, sumW]
    omega
set_option maxRecDepth 100000 in
theorem merge_none {p : Int × Int} {s : Int} {ws : List Wd} (h : ∀ x ∈ ws, cntP x.1 p = 0) : mergeWs p s ws = ws := by
  unfold mergeWs
  conv => rhs; rw [← List.map_id ws]
  refine List.map_congr_left fun x hx => ?_
  rw [merge_same (times_cnt.2 (h x hx))]; rfl
set_option maxRecDepth 100000 in
theorem tot_zero {ws : List Wd} (hp : ∀ x ∈ ws, 1 ≤ x.2) {q : Int × Int} (h : totW ws q = 0) : ∀ x ∈ ws, cntP x.1 q = 0 := fun x hx => by
  have h0 := cnt_nonneg x.1 q
  refine Classical.byContradiction fun k => ?_
  have := (tot_pos hp).2 ⟨x, hx, (by omega : 0 < cntP x.1 q)⟩
  omega
set_option maxRecDepth 100000 in
theorem tot_none {ws : List Wd} {q : Int × Int} (h : ∀ x ∈ ws, cntP x.1 q = 0) : totW ws q = 0 := by
  induction ws with
  | nil => rfl
  | cons x r ih =>
    have e : totW (x :: r) q = x.2 * cntP x.1 q + totW r q := rfl
    rw [e, h x (List.mem_cons_self ..), ih fun y hy => h y (List.mem_cons_of_mem _ hy)]; simp
set_option maxRecDepth 100000 in
theorem take_pos {p : Int × Int} {ws : List Wd} {x : Wd} (hx : x ∈ ws) (hc : 0 < cntP x.1 p) : 1 ≤ sumW (fun x => (timesL p x.1 : Int)) ws := by
  have h1 := sumW_mem (g := fun x : Wd => (timesL p x.1 : Int)) (fun y _ => by omega) hx
  have h2 : timesL p x.1 ≠ 0 := fun e => by have := times_cnt.1 e; omega
  omega
set_option maxRecDepth 100000 in
theorem wt_merge {p : Int × Int} {s : Int} {ws : List Wd} (hp : ∀ x ∈ ws, 1 ≤ x.2) : wtW (mergeWs p s ws) ≤ wtW ws := by
  induction ws with
  | nil => exact Int.le_refl _
  | cons x r ih =>
    have h := pmerge_len (p := p) (s := s) x.1
    have e1 : wtW (mergeWs p s (x :: r)) = x.2 * (((mergeL p s x.1).length - 1 : Nat) : Int) + wtW (mergeWs p s r) := rfl
    have e2 : wtW (x :: r) = x.2 * ((x.1.length - 1 : Nat) : Int) + wtW r := rfl
    have h1 := ih fun y hy => hp y (List.mem_cons_of_mem _ hy)
    have h2 := hp x (List.mem_cons_self ..)
    have h3 : x.2 * (((mergeL p s x.1).length - 1 : Nat) : Int) ≤ x.2 * ((x.1.length - 1 : Nat) : Int) := Int.mul_le_mul_of_nonneg_left (by omega) (by omega)
    omega
set_option maxRecDepth 100000 in
theorem len_merge {p : Int × Int} {s : Int} (ws : List Wd) : lenW (mergeWs p s ws) ≤ lenW ws := by
  have h1 := take_sum p s ws
  have h2 := sumW_nonneg (g := fun x : Wd => (timesL p x.1 : Int)) (ws := ws) fun x _ => by omega
  omega
set_option maxRecDepth 100000 in
theorem own_nilE {α : Type} {R : Elt α} {w : World} {b : Nat} {r : Value} (h : ownE R w b r []) : ∃ a c, r = .slice a 0 c := by
  obtain ⟨a, c, e, _⟩ := h.form
  exact ⟨a, c, e⟩
set_option maxRecDepth 100000 in
theorem xmerge_nil (p q s : Int) (w : World) : Calls Tryz.prog 10 #[.pointer none, .agg #[.int .i64 p, .int .i64 q], .int .i64 s] w fun e w' => e = .returned (.tuple #[.int .i64 0, .slice none 0 0]) ∧ Below w.heap.size w w' := by
  have HB : Hid (Below w.heap.size w (w.alloc (.cells #[.int .i64 p, .int .i64 q] 37))) := Lib.hid ((Below.refl _ w).alloc (Nat.le_refl _) _)
  go_enter Tryz.func10, Tryz.ntmps10
  go_wp2
  go_ret2
  exact ⟨rfl, HB.out⟩
/-- A pair's box of the call's own. -/
structure PBox (bx : Nat) (p q : Int) (lab : Nat → Lab) (wr : World) : Prop where
  box : wr.heap[bx]? = some (.cells #[.int .i64 p, .int .i64 q] 37 (0, 0))
  no : lab bx = .no
set_option maxRecDepth 100000 in
theorem PBox.step {w w2 : World} {lab lab2 : Nat → Lab} {bx : Nat} {p q : Int} (h : PBox bx p q lab w) (hx : XRet lab w lab2 w2) : PBox bx p q lab2 w2 := by
  obtain ⟨a, b⟩ := hx.out (Array.getElem?_eq_some_iff.1 h.box).1 h.no
  exact ⟨b.trans h.box, a⟩
set_option maxRecDepth 100000 in
theorem PBox.below {w w2 : World} {lab : Nat → Lab} {bx : Nat} {p q : Int} (h : PBox bx p q lab w) (hb : Below w.heap.size w w2) : PBox bx p q lab w2 := h.step (XRet.below hb)
set_option maxRecDepth 100000 in
theorem PBox.cells {w : World} {lab : Nat → Lab} {bx : Nat} {p q : Int} (h : PBox bx p q lab w) : w.cell? ⟨bx, 0, none⟩ = some (.int .i64 p) ∧ w.cell? ⟨bx, 1, none⟩ = some (.int .i64 q) := by
  refine ⟨?_, ?_⟩ <;> (rw [cell_of_row w bx _ _ 37 (0, 0) h.box]; rfl)
end Go.Proofs.YtejcemmhhpbchaaGreat
