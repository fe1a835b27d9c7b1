/- Texts in one: RIx, RIxC, RIxN, RIxMP. -/
import Derived.Test.YtejcemmhhpbchaaGreatGE
import Derived.Test.YtejcemmhhpbchaaGreatRMV
import Derived.Test.YtejcemmhhpbchaaGreatGK
import Derived.Test.YtejcemmhhpbchaaGreatGM
/- The document's index in memory. -/
namespace Go.Proofs.YtejcemmhhpbchaaGreat
open Go.RowKit Go.Maps

abbrev Hd := Option Addr × Nat × Nat
def hdV (e : Hd) : Value := .slice e.1 e.2.1 e.2.2
def sliceE : Elt Hd where
  ty := 43
  sl := 49
  n := 1
  bytes := 24
  zero := .slice none 0 0
  enc := fun e => [.slice e.1 e.2.1 e.2.2]
  under := Tryz.underlying49
  info := by kernel_rfl
  pos := by decide
  small := by decide
  zlen := by kernel_rfl
  len := fun _ => rfl
  one := fun x u hu => by
    simp only [List.mem_cons, List.not_mem_nil, or_false] at hu
    rcases hu with rfl; rfl
/-- The document's index in block K: rows of symbols in v, counts in u; all of it lies from base on. -/
structure RIx (w : World) (base K : Nat) (v u : Value) (E : List Hd) (ws : List Wd) : Prop where
  box : w.heap[K]? = some (.cells #[v, u] 51 (0, 0))
  ge : base ≤ K
  words : ownE sliceE w base v E
  counts : ownE intE w base u (ws.map (·.2))
  len : E.length = ws.length
  each : ∀ (j : Nat) X t, ws[j]? = some (X, t) → ∃ e, E[j]? = some e ∧ ownE intE w base (hdV e) X
/-- Its blocks. -/
def RMine (K : Nat) (v u : Value) (E : List Hd) (i : Nat) : Prop := i = K ∨ some i = v.ownBlock ∨ some i = u.ownBlock ∨ ∃ e ∈ E, some i = (hdV e).ownBlock
set_option maxRecDepth 100000 in
theorem RIx.lt {w : World} {base K : Nat} {v u : Value} {E : List Hd} {ws : List Wd} (h : RIx w base K v u E ws) {i : Nat} (hi : RMine K v u E i) : base ≤ i ∧ i < w.heap.size := by
  rcases hi with rfl | e | e | ⟨e, he, hb⟩
  · exact ⟨h.ge, (Array.getElem?_eq_some_iff.1 h.box).1⟩
  · exact h.words.lt i e.symm
  · exact h.counts.lt i e.symm
  · obtain ⟨j, hj⟩ := List.mem_iff_getElem?.1 he
    have hjl := (List.getElem?_eq_some_iff.1 hj).1
    obtain ⟨X, t, hw⟩ : ∃ X t, ws[j]? = some (X, t) := ⟨_, _, List.getElem?_eq_getElem (by rw [← h.len]; exact hjl)⟩
    obtain ⟨e2, h1, h2⟩ := h.each j X t hw
    rw [hj] at h1
    cases h1
    exact h2.lt i hb.symm
set_option maxRecDepth 100000 in
theorem RIx.kept {w w' : World} {base K : Nat} {v u : Value} {E : List Hd} {ws : List Wd} (h : RIx w base K v u E ws) (hk : ∀ i, i < w.heap.size → RMine K v u E i → w'.heap[i]? = w.heap[i]?) : RIx w' base K v u E ws := by
  refine ⟨(hk K (h.lt (.inl rfl)).2 (.inl rfl)).trans h.box, h.ge, h.words.kept fun g hg => hk g (h.words.lt g hg).2 (.inr (.inl hg.symm)), h.counts.kept fun g hg => hk g (h.counts.lt g hg).2 (.inr (.inr (.inl hg.symm))), h.len, fun j X t hj => ?_⟩
  obtain ⟨e, h1, h2⟩ := h.each j X t hj
  exact ⟨e, h1, h2.kept fun g hg => hk g (h2.lt g hg).2 (.inr (.inr (.inr ⟨e, List.mem_of_getElem? h1, hg.symm⟩)))⟩
set_option maxRecDepth 100000 in
theorem RIx.below {w w' : World} {base K : Nat} {v u : Value} {E : List Hd} {ws : List Wd} (h : RIx w base K v u E ws) (hb : Below w.heap.size w w') : RIx w' base K v u E ws := h.kept fun i hi _ => hb.block i hi
set_option maxRecDepth 100000 in
theorem RIx.cells {w : World} {base K : Nat} {v u : Value} {E : List Hd} {ws : List Wd} (h : RIx w base K v u E ws) : w.cell? ⟨K, 0, none⟩ = some v ∧ w.cell? ⟨K, 1, none⟩ = some u ∧ w.frozen? ⟨K, 0, none⟩ = false ∧ w.frozen? ⟨K, 1, none⟩ = false := by
  refine ⟨?_, ?_, Lib.frozen_of_heap h.box 0, Lib.frozen_of_heap h.box 1⟩ <;> (rw [cell_of_row w K _ _ 51 (0, 0) h.box]; rfl)
set_option maxRecDepth 100000 in
theorem hd_cell {w : World} {base g n c : Nat} {E : List Hd} (h : ownE sliceE w base (.slice (some ⟨g, 0, none⟩) n c) E) {j : Nat} {e : Hd} (he : E[j]? = some e) : w.cell? ⟨g, j, none⟩ = some (hdV e) := by
  obtain ⟨hj, rfl⟩ := List.getElem?_eq_some_iff.1 he
  have := elts_at h.reads (Below.refl _ _) hj 0 _ rfl
  rw [add_zero_off] at this
  rwa [show j * sliceE.n + 0 = j by show j * 1 + 0 = j; omega] at this
set_option maxRecDepth 100000 in
/-- One word, in memory. -/
theorem RIx.word {w : World} {base K : Nat} {v u : Value} {E : List Hd} {ws : List Wd} (h : RIx w base K v u E ws) {j : Nat} {X : List Int} {t : Int} (hj : ws[j]? = some (X, t)) :
    ∃ gv cv gu cu a c, v = .slice (some ⟨gv, 0, none⟩) ws.length cv ∧ u = .slice (some ⟨gu, 0, none⟩) ws.length cu ∧ w.cell? ⟨gv, j, none⟩ = some (.slice a X.length c) ∧ w.cell? ⟨gu, j, none⟩ = some (.int .i64 t) ∧ ownE intE w base (.slice a X.length c) X ∧ gv < w.heap.size ∧ gu < w.heap.size := by
  have hjl := (List.getElem?_eq_some_iff.1 hj).1
  obtain ⟨e, he, ho⟩ := h.each j X t hj
  obtain ⟨av, cv, ev, _⟩ := h.words.form
  obtain ⟨au, cu, eu, _⟩ := h.counts.form
  have hw := h.words; have hc := h.counts
  rw [ev] at hw
  rw [eu] at hc
  obtain ⟨gv, rfl, _⟩ := ownE_some hw (by rw [h.len]; omega)
  obtain ⟨gu, rfl, _⟩ := ownE_some hc (by rw [List.length_map]; omega)
  have c1 := hd_cell hw he
  have c2 := ints_cell hc.reads (Below.refl _ _) (k := j) (by rw [List.length_map]; exact hjl)
  rw [add_zero_off] at c2
  have e3 : (ws.map (·.2))[j]'(by rw [List.length_map]; exact hjl) = t := by
    rw [List.getElem_map, (List.getElem?_eq_some_iff.1 hj).2]
  rw [e3] at c2
  obtain ⟨ea, el, ec⟩ := e
  obtain ⟨a, c, ee, _⟩ := ho.form
  simp only [hdV, Value.slice.injEq] at ee
  obtain ⟨rfl, rfl, rfl⟩ := ee
  refine ⟨gv, cv, gu, cu, ea, ec, by rw [ev, h.len], by rw [eu, List.length_map], c1, c2, ho, (hw.lt gv rfl).2, (hc.lt gu rfl).2⟩
set_option maxRecDepth 100000 in
theorem RIx.lens {w : World} {base K : Nat} {v u : Value} {E : List Hd} {ws : List Wd} (h : RIx w base K v u E ws) : ∃ a c, v = .slice a ws.length c := by
  obtain ⟨a, c, e, _⟩ := h.words.form
  exact ⟨a, c, by rw [e, h.len]⟩
/-- None of its blocks is the index's. -/
def RFree (lab : Nat → Lab) (K : Nat) (v u : Value) (E : List Hd) : Prop := ∀ i, RMine K v u E i → lab i = .no
set_option maxRecDepth 100000 in
theorem RIx.step {w w2 : World} {lab lab2 : Nat → Lab} {base K : Nat} {v u : Value} {E : List Hd} {ws : List Wd} (h : RIx w base K v u E ws) (hf : RFree lab K v u E) (hx : XRet lab w lab2 w2) : RIx w2 base K v u E ws ∧ RFree lab2 K v u E :=
  ⟨h.kept fun i hi hm => (hx.out hi (hf i hm)).2, fun i hm => (hx.out (h.lt hm).2 (hf i hm)).1⟩
/-! Counts of parts of words. -/
set_option maxRecDepth 100000 in
theorem cnt_pre : ∀ (A B : List Int) (q : Int × Int), cntP A q ≤ cntP (A ++ B) q
  | [], B, q => cnt_nonneg B q
  | [x], B, q => by
    cases B with
    | nil => exact Int.le_refl _
    | cons y r => have := cnt_nonneg (y :: r) q; simp only [List.cons_append, List.nil_append, cntP]; split <;> omega
  | x :: y :: r, B, q => by
    have := cnt_pre (y :: r) B q
    simp only [List.cons_append, cntP] at this ⊢
    omega
set_option maxRecDepth 100000 in
theorem cnt_take_le (X : List Int) (k : Nat) (q : Int × Int) : cntP (X.take k) q ≤ cntP X q := by
  have := cnt_pre (X.take k) (X.drop k) q
  rwa [List.take_append_drop] at this
set_option maxRecDepth 100000 in
theorem add2 {L : Cn} {p : Int × Int} {t : Int} (ht : 0 ≤ t) (h0 : 0 ≤ getC L p) (h : getC L p + t ≤ 9223372036854775807) : addC L p 1 t = (setC L p (getC L p + t), 0) := by
  unfold addC movOf
  rw [if_neg (by omega), if_pos (by decide), mulOf_yes (by decide) ht (by omega), Int.one_mul]
  simp only [cond_true]
  rw [addOf_yes h0 ht h]
  rfl
set_option maxRecDepth 100000 in
theorem cn_len2 {L : Cn} {ws : List Wd} (hg : GoodC L) (hp : ∀ x ∈ ws, 1 ≤ x.2) (ht : ∀ q, 0 < getC L q → 0 < totW ws q) : (L.length : Int) ≤ lenW ws := by
  have h1 := len_sub (A := keysC L) (B := adjW ws) (keys_nodup hg.ris) fun q hq => by
    obtain ⟨x, hx, hc⟩ := (tot_pos hp).1 (ht q ((keys_get hg).1 hq))
    exact List.mem_flatMap.2 ⟨x, hx, xcnt_adj (by omega)⟩
  have h2 := adjW_len (ws := ws)
  have h3 : (keysC L).length = L.length := by simp [keysC]
  omega
set_option maxRecDepth 100000 in
theorem tot_take (ws : List Wd) (i : Nat) {X : List Int} {t : Int} (h : ws[i]? = some (X, t)) (q : Int × Int) : totW (ws.take (i + 1)) q = totW (ws.take i) q + t * cntP X q := by
  obtain ⟨hk, e⟩ := List.getElem?_eq_some_iff.1 h
  rw [List.take_succ_eq_append_getElem hk, e]
  unfold totW
  rw [sumW_app]; simp [sumW]
set_option maxRecDepth 100000 in
theorem tot_take_le {ws : List Wd} (hp : ∀ x ∈ ws, 1 ≤ x.2) (i : Nat) (q : Int × Int) : totW (ws.take i) q ≤ totW ws q := by
  have e : totW (ws.take i) q + totW (ws.drop i) q = totW ws q := by
    unfold totW; rw [← sumW_app, List.take_append_drop]
  have := tot_nonneg (ws := ws.drop i) (fun x hx => (by have := hp x (List.mem_of_mem_drop hx); omega : 0 ≤ x.2)) q
  omega
end Go.Proofs.YtejcemmhhpbchaaGreat
/- The document's index: all counts, counted anew. -/
namespace Go.Proofs.YtejcemmhhpbchaaGreat
open Go.RowKit Go.Maps

/-- What holds of words that are counted. -/
structure SaneW (ws : List Wd) : Prop where
  pos : ∀ x ∈ ws, 1 ≤ x.2
  wt : wtW ws ≤ 9223372036854775807
  fits : ∀ x ∈ ws, ∀ y ∈ x.1, 0 ≤ y ∧ y < 1000001
  len : lenW ws ≤ 400
  few : ∀ x ∈ ws, x.1.length ≤ 1000
  many : ws.length ≤ 1000
/-- The counts so far: i words, and k neighbours of the next one. -/
def CntUpto (ws : List Wd) (i k : Nat) (X : List Int) (t : Int) (L : Cn) : Prop := GoodC L ∧ ∀ q, getC L q = totW (ws.take i) q + t * cntP (X.take (k + 1)) q
set_option maxRecDepth 100000 in
theorem SaneW.one {ws : List Wd} (h : SaneW ws) {i : Nat} {X : List Int} {t : Int} (hw : ws[i]? = some (X, t)) : 1 ≤ t ∧ ∀ q, 0 ≤ totW (ws.take i) q ∧ totW (ws.take i) q + t * cntP X q ≤ 9223372036854775807 := by
  have hm := List.mem_of_getElem? hw
  refine ⟨h.pos _ hm, fun q => ⟨tot_nonneg (fun x hx => by have := h.pos x (List.mem_of_mem_take hx); omega) q, ?_⟩⟩
  rw [← tot_take ws i hw]
  have h1 := tot_take_le h.pos (i + 1) q
  have h2 := tot_le (fun x hx => (by have := h.pos x hx; omega : 0 ≤ x.2)) q
  have := h.wt
  omega
set_option maxRecDepth 100000 in
theorem CntUpto.small {ws : List Wd} {i k : Nat} {X : List Int} {t : Int} {L : Cn} (h : CntUpto ws i k X t L) (hs : SaneW ws) (hw : ws[i]? = some (X, t)) : L.length ≤ 1000 := by
  have h1 := cn_len2 h.1 hs.pos fun q hq => by
    rw [h.2] at hq
    have h1 := tot_take_le hs.pos (i + 1) q
    rw [tot_take ws i hw] at h1
    have h2 := Int.mul_le_mul_of_nonneg_left (cnt_take_le X (k + 1) q) (by have := (hs.one hw).1; omega : 0 ≤ t)
    omega
  have := hs.len
  omega
set_option maxRecDepth 100000 in
theorem CntUpto.next {ws : List Wd} {i k : Nat} {X : List Int} {t : Int} {L : Cn} (h : CntUpto ws i k X t L) (hs : SaneW ws) (hw : ws[i]? = some (X, t)) (hk : k + 1 < X.length) : ∃ M, addC L (X[k], X[k + 1]) 1 t = (M, 0) ∧ CntUpto ws i (k + 1) X t M := by
  obtain ⟨ht, hq⟩ := hs.one hw
  have hm := List.mem_of_getElem? hw
  have hc := cnt_two hk (X[k], X[k + 1])
  rw [if_pos rfl] at hc
  have h1 := Int.mul_le_mul_of_nonneg_left (cnt_take_le X (k + 2) (X[k], X[k + 1])) (by omega : 0 ≤ t)
  rw [hc, Int.mul_add, Int.mul_one] at h1
  have h2 := hq (X[k], X[k + 1])
  have h3 := h.2 (X[k], X[k + 1])
  have ha := add2 (L := L) (p := (X[k], X[k + 1])) (t := t) (by omega) (h.1.get _).1 (by omega)
  have f1 := hs.fits _ hm _ (List.getElem_mem (show k < X.length by omega))
  have f2 := hs.fits _ hm _ (List.getElem_mem hk)
  refine ⟨_, ha, h.1.set (xfits_small ⟨f1, f2⟩ (by decide)) ⟨by have := (h.1.get (X[k], X[k + 1])).1; omega, by omega⟩, fun q => ?_⟩
  rw [get_set h.1.ris, cnt_two hk]
  by_cases e : q = (X[k], X[k + 1])
  · subst e
    rw [if_pos rfl, if_pos rfl, h3, Int.mul_add, Int.mul_one]; omega
  · rw [if_neg e, if_neg (fun k => e k.symm), h.2 q]; simp
set_option maxRecDepth 100000 in
theorem CntUpto.word {ws : List Wd} {i k : Nat} {X : List Int} {t : Int} {L : Cn} (h : CntUpto ws i k X t L) (hw : ws[i]? = some (X, t)) (hk : X.length ≤ k + 1) : GoodC L ∧ ∀ q, getC L q = totW (ws.take (i + 1)) q := by
  refine ⟨h.1, fun q => ?_⟩
  rw [h.2, tot_take ws i hw, List.take_of_length_le hk]
/-- What Count tells. -/
def RCntRet (ws : List Wd) (w : World) (e : Ending) (w' : World) : Prop :=
  ∃ (Kc : Nat) (cv cu : Value) (L : Cn), e = .returned (.pointer (some ⟨Kc, 0, none⟩)) ∧ Rct w' w.heap.size Kc cv cu L ∧ GoodC L ∧ (∀ q, getC L q = totW ws q) ∧ Below w.heap.size w w'
def RCnt1 (ws : List Wd) (w : World) (Kc : Nat) (iv : Value) (wr : World) : Prop :=
  ∃ (i : Nat) (cv cu : Value) (L : Cn), iv = .int .i64 (i : Int) ∧ i ≤ ws.length ∧ Rct wr w.heap.size Kc cv cu L ∧ GoodC L ∧ (∀ q, getC L q = totW (ws.take i) q) ∧ Below w.heap.size w wr
def RCnt2 (ws : List Wd) (w : World) (Kc i : Nat) (X : List Int) (t : Int) (kv : Value) (wr : World) : Prop :=
  ∃ (k : Nat) (cv cu : Value) (L : Cn), kv = .int .i64 (k : Int) ∧ k ≤ X.length ∧ Rct wr w.heap.size Kc cv cu L ∧ CntUpto ws i k X t L ∧ Below w.heap.size w wr
set_option maxRecDepth 100000 in
set_option maxHeartbeats 8000000 in
theorem rxcount_any (base K : Nat) (v u : Value) (E : List Hd) (ws : List Wd) (w : World) (h : RIx w base K v u E ws) (hs : SaneW ws) :
    Calls Tryz.prog 15 #[.pointer (some ⟨K, 0, none⟩)] w fun e w' => RCntRet ws w e w' := by
  have H := Lib.hid h; have HS := Lib.hid hs
  obtain ⟨av, cv0, rfl⟩ := h.lens
  obtain ⟨n, hn⟩ : ∃ n, ws.length = n := ⟨_, rfl⟩
  have HN := Lib.hid hn
  have hn1 : n ≤ 1000 := by rw [← hn]; exact hs.many
  obtain ⟨Kc, hKc⟩ : ∃ Kc, w.heap.size = Kc := ⟨_, rfl⟩
  have HKC := Lib.hid hKc
  obtain ⟨w1, hw1⟩ : ∃ w1, w1 = w.alloc (.cells #[.slice none 0 0, .slice none 0 0] 45) := ⟨_, rfl⟩
  have H1 : Hid (RCnt1 ws w Kc (.int .i64 0) w1) := Lib.hid (by
    have h1 := rnew_rct w
    rw [← hw1, hKc] at h1
    exact ⟨0, _, _, [], rfl, Nat.zero_le _, by rw [hKc]; exact h1, GoodC.nil, fun _ => rfl, by rw [hw1]; exact (Below.refl _ w).alloc (Nat.le_refl _) _⟩)
  have hw1' := hw1.symm
  rw [hn] at H
  clear h hs hw1 hn
  go_enter Tryz.func15, Tryz.ntmps15
  go_wp2_with fail
  clear hw1' hKc
  go_loopw [4] (fun iv wr => RCnt1 ws w Kc iv wr) (fun iv _ => n + 1 - (intOf iv).toNat)
  case atStart => exact H1.out
  case round =>
    obtain ⟨i, cv, cu, L, rfl, hi, hR, hG, hT, hB⟩ := hrel
    rw [HN.out] at hi
    have HR := Lib.hid hR; have HG := Lib.hid hG; have HT := Lib.hid hT; have HB := Lib.hid hB
    have k0 := (H.out.below hB).cells.1
    clear hR hG hT hB H1
    by_cases hgo : i < n
    · have hiI : (i : Int) < (n : Int) := by omega
      obtain ⟨X, t, hw⟩ : ∃ X t, ws[i]? = some (X, t) := ⟨_, _, List.getElem?_eq_getElem (by rw [HN.out]; exact hgo)⟩
      have HW := Lib.hid hw
      have H0 : Hid (RCnt2 ws w Kc i X t (.int .i64 0) wr) := Lib.hid ⟨0, cv, cu, L, rfl, Nat.zero_le _, HR.out, ⟨HG.out, fun q => by rw [HT.out, cnt_take_one]; simp⟩, HB.out⟩
      obtain ⟨gv, cw, gu, cx, a, c, ev, eu, w0, w1, ho, _, _⟩ := H.out.word hw
      rw [HN.out] at ev eu
      simp only [Value.slice.injEq] at ev
      obtain ⟨rfl, _, rfl⟩ := ev
      subst eu
      obtain ⟨m, hm⟩ : ∃ m, X.length = m := ⟨_, rfl⟩
      have HM := Lib.hid hm
      have hm1 : m ≤ 1000 := by rw [← hm]; exact HS.out.few _ (List.mem_of_getElem? hw)
      rw [hm] at w0 ho
      -- what is read of the words, in any later world
      have HC : Hid (∀ W, Below w.heap.size w W → W.cell? ⟨K, 0, none⟩ = some (.slice (some ⟨gv, 0, none⟩) n cv0) ∧ W.cell? ⟨K, 1, none⟩ = some (.slice (some ⟨gu, 0, none⟩) n cx) ∧ W.cell? ⟨gv, i, none⟩ = some (.slice a m c) ∧ W.cell? ⟨gu, i, none⟩ = some (.int .i64 t) ∧ eltsAt intE W (.slice a m c) X) := Lib.hid fun W hW => by
        obtain ⟨_, _, _, _, _, _, e1, e2, x0, x1, _, g1, g2⟩ := H.out.word HW.out
        have hk := (H.out.below hW).cells
        simp only [Value.slice.injEq, Option.some.injEq, Addr.mk.injEq] at e1 e2
        obtain ⟨⟨rfl, _⟩, _⟩ := e1
        obtain ⟨⟨rfl, _⟩, _⟩ := e2
        exact ⟨hk.1, hk.2.1, (hW.cell g1).trans w0, (hW.cell g2).trans w1, ho.reads.below hW (Nat.le_refl _)⟩
      obtain ⟨_, _, x0, _⟩ := HC.out wr HB.out
      clear hw hm w0 w1 ho k0
      have k0 := (HC.out wr HB.out).1
      go_wp2_with fail
      go_loopw [5] (fun kv wr => RCnt2 ws w Kc i X t kv wr) (fun kv _ => m + 1 - (intOf kv).toNat)
      case atStart => exact H0.out
      case round =>
        obtain ⟨wo, hwo⟩ : ∃ wo, wo = wr := ⟨_, rfl⟩
        subst hwo
        obtain ⟨k, cv2, cu2, L2, rfl, hk, hR2, hU, hB2⟩ := hrel
        rw [HM.out] at hk
        have HR2 := Lib.hid hR2; have HU := Lib.hid hU; have HB2 := Lib.hid hB2
        clear hR2 hU hB2 k0 x0
        obtain ⟨k0, k1, x0, x1, hel⟩ := HC.out wo HB2.out
        by_cases hgk : k + 1 < m
        · have hkI : (k : Int) + 1 < (m : Int) := by omega
          have hkI0 : (k : Int) < (m : Int) := by omega
          have hkX : k + 1 < X.length := by rw [HM.out]; exact hgk
          obtain ⟨k1, hk1⟩ : ∃ k1, k + 1 = k1 := ⟨_, rfl⟩
          have HK1 := Lib.hid hk1
          have hkk : (k : Int) + 1 = (k1 : Int) := by omega
          have hkI2 : (k1 : Int) < (m : Int) := by omega
          obtain ⟨ad, e1, y0⟩ := int_at hel (k := k) (by omega)
          subst e1
          obtain ⟨ad2, e2, y1⟩ := int_at hel hkX
          cases e2
          obtain ⟨M, hadd, hnx⟩ := HU.out.next HS.out HW.out hkX
          obtain ⟨z0, hz0⟩ : ∃ z, X[k] = z := ⟨_, rfl⟩
          obtain ⟨z1, hz1⟩ : ∃ z, X[k + 1] = z := ⟨_, rfl⟩
          rw [hz0] at y0 hadd
          rw [hz1] at y1 hadd
          have HNX := Lib.hid hnx
          have ht := (HS.out.one HW.out).1
          have htm : t ≤ 9223372036854775807 := by
            have h2 := HS.out.wt
            have h3 := wt_mem HS.out.pos (List.mem_of_getElem? HW.out)
            have h4 : t * 1 ≤ t * ((X.length - 1 : Nat) : Int) := Int.mul_le_mul_of_nonneg_left (by omega) (by omega)
            simp only at h3
            omega
          have HCA := Lib.hid (dradd_any w.heap.size Kc cv2 cu2 L2 z0 z1 1 t wo.drew HR2.out.drew HU.out.1 (by unfold FitsZ; omega) (by unfold FitsZ; omega) (HU.out.small HS.out HW.out))
          rw [hadd] at HCA
          have HSW : Hid (∀ W, Below w.heap.size w W → W.cell? ⟨K, 0, none⟩ = some (.slice (some ⟨gv, 0, none⟩) n cv0) ∧ W.cell? ⟨K, 1, none⟩ = some (.slice (some ⟨gu, 0, none⟩) n cx) ∧ W.cell? ⟨gv, i, none⟩ = some (.slice (some ad) m c) ∧ W.cell? ⟨gu, i, none⟩ = some (.int .i64 t) ∧ W.cell? (ad.add k) = some (.int .i64 z0) ∧ W.cell? (ad.add k1) = some (.int .i64 z1)) := Lib.hid fun W hW => by
            obtain ⟨p0, p1, p2, p3, p4⟩ := HC.out W hW
            obtain ⟨_, e3, q0⟩ := int_at p4 (k := k) (by omega)
            cases e3
            obtain ⟨_, e4, q1⟩ := int_at p4 hkX
            cases e4
            exact ⟨p0, p1, p2, p3, by rw [q0, hz0], by rw [← HK1.out, q1, hz1]⟩
          have HZ1 := Lib.hid (HSW.out wo HB2.out)
          have HZ2 := Lib.hid (HSW.out wo.drew HB2.out.drew)
          have hwk : IntKind.i64.wrap (k1 : Int) = (k1 : Int) := IntWalk.i64_in _ (by omega)
          rw [hk1] at y1
          clear hel hkX hadd hnx hz0 hz1 hk1 hkI hgk
          go_wp2_with fail
          go_region_held3 (fun W => W.cell? ⟨K, 0, none⟩ = some (.slice (some ⟨gv, 0, none⟩) n cv0) ∧ W.cell? ⟨K, 1, none⟩ = some (.slice (some ⟨gu, 0, none⟩) n cx) ∧ W.cell? ⟨gv, i, none⟩ = some (.slice (some ad) m c) ∧ W.cell? ⟨gu, i, none⟩ = some (.int .i64 t) ∧ W.cell? (ad.add k) = some (.int .i64 z0) ∧ W.cell? (ad.add k1) = some (.int .i64 z1)) (first | exact HZ1.out | exact HZ2.out | exact HZ6.out) (first
            | (go_at_call 37
               with_reducible refine HCA.out.mono ?_
               rintro e w6 ⟨rfl, cv6, cu6, hR6, hk6⟩
               have HB6 : Hid (Below w.heap.size w w6) := Lib.hid (HB2.out.drew.trans (hk6.below HB2.out.drew.size fun g hg => by rw [hg, HKC.out]; exact Nat.le_refl _))
               have HZ6 := Lib.hid (HSW.out w6 HB6.out)
               have HR6 := Lib.hid hR6
               clear hR6 hk6))
          all_goals (
            go_wp2_with fail
            go_roundw
            case rel => exact ⟨k + 1, cv6, cu6, M, by have := HK1.out; first | (congr 1; omega) | simp, by rw [HM.out]; omega, HR6.out, HNX.out, HB6.out⟩
            case measure => simp [intOf] <;> omega)
        · have hkI : ¬ (k : Int) + 1 < (m : Int) := by omega
          obtain ⟨hg2, ht2⟩ := HU.out.word HW.out (by rw [HM.out]; omega)
          have HG2 := Lib.hid hg2; have HT2 := Lib.hid ht2
          clear hg2 ht2 hel
          go_wp2_with fail
          go_roundw
          case rel => exact ⟨i + 1, cv2, cu2, L2, by simp, by rw [HN.out]; omega, HR2.out, HG2.out, HT2.out, HB2.out⟩
          case measure => simp [intOf] <;> omega
    · have hiI : ¬ (i : Int) < (n : Int) := by omega
      obtain rfl : i = n := by omega
      go_wp2_with fail
      go_ret
      have hall : ws.take i = ws := List.take_of_length_le (by rw [HN.out]; exact Nat.le_refl _)
      exact ⟨Kc, cv, cu, L, rfl, HR.out, HG.out, fun q => by rw [HT.out, hall], HB.out⟩
end Go.Proofs.YtejcemmhhpbchaaGreat
/- The document's index: made, its positions, is a pair in a word. -/
namespace Go.Proofs.YtejcemmhhpbchaaGreat
open Go.RowKit Go.Maps

def RPosRel (ws : List Wd) (w : World) (sv iv : Value) (wr : World) : Prop := ∃ i : Nat, iv = .int .i64 (i : Int) ∧ i ≤ ws.length ∧ sv = .int .i64 (lenW (ws.take i)) ∧ wr = w
set_option maxRecDepth 100000 in
theorem len_step {ws : List Wd} {i : Nat} {X : List Int} {t : Int} (h : ws[i]? = some (X, t)) : lenW (ws.take (i + 1)) = lenW (ws.take i) + (X.length : Int) := by
  obtain ⟨hk, e⟩ := List.getElem?_eq_some_iff.1 h
  rw [List.take_succ_eq_append_getElem hk, e]
  unfold lenW
  rw [sumW_app]; simp [sumW]
set_option maxRecDepth 100000 in
set_option maxHeartbeats 2000000 in
theorem rxpos_any (base K : Nat) (v u : Value) (E : List Hd) (ws : List Wd) (w : World) (h : RIx w base K v u E ws) (hl : lenW ws ≤ 1000000) (hmn : ws.length ≤ 1000) :
    Calls Tryz.prog 14 #[.pointer (some ⟨K, 0, none⟩)] w fun e w' => e = .returned (.int .i64 (lenW ws)) ∧ w' = w := by
  have H := Lib.hid h; have HL := Lib.hid hl
  obtain ⟨av, cv0, rfl⟩ := h.lens
  obtain ⟨n, hn⟩ : ∃ n, ws.length = n := ⟨_, rfl⟩
  have HN := Lib.hid hn
  have hn1 : n ≤ 1000 := by omega
  rw [hn] at H
  have k0 := H.out.cells.1
  clear h hn hl hmn
  go_enter Tryz.func14, Tryz.ntmps14
  go_wp2
  go_loopw [3, 4] (fun sv iv wr => RPosRel ws w sv iv wr) (fun _ iv _ => n + 1 - (intOf iv).toNat)
  case atStart => exact ⟨0, rfl, Nat.zero_le _, rfl, rfl⟩
  case round =>
    obtain ⟨i, rfl, hi, rfl, rfl⟩ := hrel
    rw [HN.out] at hi
    obtain ⟨S, hS⟩ : ∃ S, lenW (ws.take i) = S := ⟨_, rfl⟩
    have HS := Lib.hid hS
    have hS0 : 0 ≤ S := by rw [← hS]; exact lenW_nonneg _
    rw [hS]
    clear hS
    by_cases hgo : i < n
    · have hiI : (i : Int) < (n : Int) := by omega
      obtain ⟨X, t, hw⟩ : ∃ X t, ws[i]? = some (X, t) := ⟨_, _, List.getElem?_eq_getElem (by rw [HN.out]; exact hgo)⟩
      obtain ⟨gv, cw, gu, cx, a, c, ev, eu, w0, w1, ho, _, _⟩ := H.out.word hw
      rw [HN.out] at ev
      simp only [Value.slice.injEq] at ev
      obtain ⟨rfl, _, rfl⟩ := ev
      obtain ⟨m, hm⟩ : ∃ m, X.length = m := ⟨_, rfl⟩
      have hst := len_step hw
      rw [HS.out, hm] at hst
      have HST := Lib.hid hst
      have hle := len_take ws (i + 1)
      rw [hst] at hle
      have hwr : IntKind.i64.wrap (S + (m : Int)) = S + (m : Int) := IntWalk.i64_in _ (by have := HL.out; omega)
      rw [hm] at w0
      clear hw hm hst hle eu ho w1
      go_wp2
      go_roundw
      case rel => exact ⟨i + 1, by simp, by rw [HN.out]; omega, by rw [HST.out], rfl⟩
      case measure => simp [intOf] <;> omega
    · have hiI : ¬ (i : Int) < (n : Int) := by omega
      obtain rfl : i = n := by omega
      have hall : S = lenW ws := by rw [← HS.out, List.take_of_length_le (by rw [HN.out]; exact Nat.le_refl _)]
      have HALL := Lib.hid hall
      clear hall
      go_wp2
      go_ret
      exact ⟨by rw [HALL.out]; rfl, rfl⟩
set_option maxRecDepth 100000 in
set_option maxHeartbeats 4000000 in
theorem rxin_any (base K : Nat) (v u : Value) (E : List Hd) (ws : List Wd) (j : Nat) (X : List Int) (t : Int) (p q : Int) (w : World) (h : RIx w base K v u E ws) (hj : ws[j]? = some (X, t)) (hX : X.length ≤ 1000) :
    Calls Tryz.prog 20 #[.pointer (some ⟨K, 0, none⟩), .int .i64 (j : Int), .agg #[.int .i64 p, .int .i64 q]] w fun e w' => e = .returned (.bool (decide (0 < cntP X (p, q)))) ∧ Below w.heap.size w w' := by
  obtain ⟨c, hc⟩ : ∃ c, cntP X (p, q) = c := ⟨_, rfl⟩
  obtain ⟨bx, hbx⟩ : ∃ bx, w.heap.size = bx := ⟨_, rfl⟩
  obtain ⟨w1, hw1⟩ : ∃ w1, w1 = w.alloc (.cells #[.int .i64 p, .int .i64 q] 37) := ⟨_, rfl⟩
  have B1 : Below w.heap.size w w1 := by rw [hw1]; exact (Below.refl _ w).alloc (Nat.le_refl _) _
  have hs1 : w1.heap.size = bx + 1 := by rw [hw1, ← hbx]; simp
  obtain ⟨gv, cw, gu, cx, a, cc, rfl, eu, x0, _, ho, hgv, _⟩ := h.word hj
  have hjl := (List.getElem?_eq_some_iff.1 hj).1
  obtain ⟨n, hn⟩ : ∃ n, ws.length = n := ⟨_, rfl⟩
  rw [hn] at h hjl
  obtain ⟨m, hm⟩ : ∃ m, X.length = m := ⟨_, rfl⟩
  rw [hm] at x0 ho
  have hK := (h.lt (.inl rfl)).2
  have k0 := h.cells.1
  have HSW : Hid (∀ W, Below w1.heap.size w1 W → W.cell? ⟨K, 0, none⟩ = some (.slice (some ⟨gv, 0, none⟩) n cw) ∧ W.cell? ⟨gv, j, none⟩ = some (.slice a m cc) ∧ W.cell? ⟨bx, 0, none⟩ = some (.int .i64 p) ∧ W.cell? ⟨bx, 1, none⟩ = some (.int .i64 q)) := Lib.hid fun W hW => by
    refine ⟨((hW.cell (show K < w1.heap.size by omega)).trans (B1.cell (show K < w.heap.size by omega))).trans k0, ((hW.cell (show gv < w1.heap.size by omega)).trans (B1.cell (show gv < w.heap.size by omega))).trans x0, (hW.cell (show bx < w1.heap.size by omega)).trans ?_, (hW.cell (show bx < w1.heap.size by omega)).trans ?_⟩
    · rw [hw1, ← hbx]; simp
    · rw [hw1, ← hbx]; simp
  have HCT : Hid (Calls Tryz.prog 41 #[.slice a m cc, .agg #[.int .i64 p, .int .i64 q]] w1.drew fun e w' => e = .returned (.int .i64 c) ∧ Below w1.heap.size w1 w') := Lib.hid (by
    refine (count_any _ X p q w1.drew (ho.reads.below (B1.drew) (Nat.le_refl _)) hX).mono ?_
    rintro e w' ⟨rfl, nq, os, rfl⟩
    refine ⟨by rw [hc], ?_⟩
    have := dgrown_below w1.drew nq os
    exact ⟨this.os, this.tape, this.output, this.size, this.block⟩)
  have HB1 := Lib.hid B1
  have HZ1 := Lib.hid (HSW.out w1 (Below.refl _ _))
  have HZ2 := Lib.hid (HSW.out w1.drew (Below.refl _ _).drew)
  have hj0 : decide ((0 : Int) ≤ (j : Int)) = true := decide_eq_true (by omega)
  have hjn : (j : Int) < (n : Int) := by omega
  have hjd : decide ((j : Int) < (n : Int)) = true := decide_eq_true hjn
  have hw1' := hw1.symm
  rw [hc]
  clear h hj hX B1 hw1 hs1 eu x0 ho hgv hjl hn hm hK k0 hc
  go_enter Tryz.func20, Tryz.ntmps20
  go_wp2_with fail
  go_region_held3 (fun W => W.cell? ⟨K, 0, none⟩ = some (.slice (some ⟨gv, 0, none⟩) n cw) ∧ W.cell? ⟨gv, j, none⟩ = some (.slice a m cc) ∧ W.cell? ⟨bx, 0, none⟩ = some (.int .i64 p) ∧ W.cell? ⟨bx, 1, none⟩ = some (.int .i64 q)) (first | exact HZ1.out | exact HZ2.out | exact HZ6.out) (first
    | (go_at_call 41
       with_reducible refine HCT.out.mono ?_
       rintro e w6 ⟨rfl, hb6⟩
       have HZ6 := Lib.hid (HSW.out w6 hb6)
       have HB6 := Lib.hid (HB1.out.trans (hb6.mono HB1.out.size))
       clear hb6))
  all_goals (
    go_wp2
    go_ret
    exact ⟨rfl, HB6.out⟩)
end Go.Proofs.YtejcemmhhpbchaaGreat
/- The document's index merged: plain lists and states. -/
namespace Go.Proofs.YtejcemmhhpbchaaGreat
open Go.RowKit Go.Maps

set_option maxRecDepth 100000 in
/-- One element of one cell, written. -/
theorem own_put {α : Type} {R : Elt α} (hn : R.n = 1) {w : World} {b g n c : Nat} {L : List α} (h : ownE R w b (.slice (some ⟨g, 0, none⟩) n c) L) {j : Nat} (hj : j < L.length) {y : α} {u : Value} (hy : R.enc y = [u]) : ownE R (w.setCell ⟨g, j, none⟩ u) b (.slice (some ⟨g, 0, none⟩) n c) (L.set j y) := by
  obtain ⟨hl, hr⟩ := h
  rcases hr with ⟨e, _⟩ | ⟨g', cap, cur, e, hb, hg, h1, h2, h3, h4⟩
  · cases e
  · cases e
    have hx : ∃ x, R.enc L[j] = [x] := by
      have := R.len L[j]
      rw [hn] at this
      exact List.length_eq_one_iff.1 this
    obtain ⟨x, hx⟩ := hx
    have he := ecells_set (R := R) (L := L) (x := L[j]) (i := 0) (u := u) y (by rw [hx, hy]; rfl) (by rw [hn]; decide) hj rfl
    refine ⟨by rw [ecells_len], .inr ⟨g, c, _, by simp, hb, heap_setCell_at hg u, by simpa using h1, h2, by simpa using h3, ?_⟩⟩
    rw [he, hn, Nat.mul_one, Nat.add_zero, ← h4, Array.toList_setIfInBounds, List.take_set, List.length_set, hn]
    simp only [Nat.mul_one]
set_option maxRecDepth 100000 in
theorem put_cell {α : Type} {R : Elt α} (hn : R.n = 1) {w : World} {b g n c : Nat} {L : List α} (h : ownE R w b (.slice (some ⟨g, 0, none⟩) n c) L) {j : Nat} (hj : j < L.length) : (∃ u, w.cell? ⟨g, j, none⟩ = some u) ∧ w.frozen? ⟨g, j, none⟩ = false := by
  have h1 := elts_at h.reads (Below.refl _ _) hj
  obtain ⟨x, hx⟩ : ∃ x, R.enc L[j] = [x] := by
    have := R.len L[j]
    rw [hn] at this
    exact List.length_eq_one_iff.1 this
  have h2 := h1 0 x (by rw [hx]; rfl)
  rw [add_zero_off, hn, Nat.mul_one, Nat.add_zero] at h2
  obtain ⟨cs, hg⟩ := h.block g rfl
  exact ⟨⟨x, h2⟩, Lib.frozen_of_heap hg _⟩
/-- Words merged up to a place. -/
def mergeUpto (p : Int × Int) (s : Int) (ws : List Wd) (i : Nat) : List Wd := mergeWs p s (ws.take i) ++ ws.drop i
set_option maxRecDepth 100000 in
theorem upto_zero (p : Int × Int) (s : Int) (ws : List Wd) : mergeUpto p s ws 0 = ws := by simp [mergeUpto, mergeWs]
set_option maxRecDepth 100000 in
theorem upto_all (p : Int × Int) (s : Int) (ws : List Wd) : mergeUpto p s ws ws.length = mergeWs p s ws := by simp [mergeUpto]
set_option maxRecDepth 100000 in
theorem upto_at {p : Int × Int} {s : Int} {ws : List Wd} {i : Nat} {X : List Int} {t : Int} (h : ws[i]? = some (X, t)) : (mergeUpto p s ws i)[i]? = some (X, t) ∧ mergeUpto p s ws (i + 1) = (mergeUpto p s ws i).set i (mergeL p s X, t) := by
  obtain ⟨hi, e⟩ := List.getElem?_eq_some_iff.1 h
  have hl : (mergeWs p s (ws.take i)).length = i := by unfold mergeWs; rw [List.length_map, List.length_take]; omega
  unfold mergeUpto
  refine ⟨by rw [List.getElem?_append_right (by omega), hl, Nat.sub_self, List.getElem?_drop, Nat.add_zero]; exact h, ?_⟩
  rw [List.set_append_right _ _ (by omega), hl, Nat.sub_self, List.take_succ_eq_append_getElem hi, e, List.drop_eq_getElem_cons hi, List.set_cons_zero]
  unfold mergeWs
  simp
set_option maxRecDepth 100000 in
theorem upto_len (p : Int × Int) (s : Int) (ws : List Wd) (i : Nat) (hi : i ≤ ws.length) : (mergeUpto p s ws i).length = ws.length := by
  unfold mergeUpto mergeWs; rw [List.length_append, List.length_map, List.length_take, List.length_drop]; omega
set_option maxRecDepth 100000 in
theorem upto_snd (p : Int × Int) (s : Int) (ws : List Wd) (i : Nat) : (mergeUpto p s ws i).map (·.2) = ws.map (·.2) := by
  unfold mergeUpto mergeWs
  rw [List.map_append, List.map_map]
  conv => rhs; rw [← List.take_append_drop i ws, List.map_append]
  rfl
/-- The rows behind i merges, as they lie in the new row of rows. -/
structure RRows (wr : World) (base : Nat) (r : Value) (E : List Hd) (ws : List Wd) : Prop where
  row : ownE sliceE wr base r E
  len : E.length = ws.length
  each : ∀ (j : Nat) X t, ws[j]? = some (X, t) → ∃ e, E[j]? = some e ∧ ownE intE wr base (hdV e) X
set_option maxRecDepth 100000 in
theorem RRows.below {w w2 : World} {base : Nat} {r : Value} {E : List Hd} {ws : List Wd} (h : RRows w base r E ws) (hb : Below w.heap.size w w2) : RRows w2 base r E ws :=
  ⟨h.row.below hb, h.len, fun j X t hj => by obtain ⟨e, h1, h2⟩ := h.each j X t hj; exact ⟨e, h1, h2.below hb⟩⟩
set_option maxRecDepth 100000 in
theorem RRows.put {w : World} {base g n c : Nat} {E : List Hd} {ws : List Wd} (h : RRows w base (.slice (some ⟨g, 0, none⟩) n c) E ws) {j : Nat} {X0 X : List Int} {t : Int} (hj : ws[j]? = some (X0, t)) {a : Option Addr} {m k : Nat} (ho : ownE intE w base (.slice a m k) X) :
    RRows (w.setCell ⟨g, j, none⟩ (.slice a m k)) base (.slice (some ⟨g, 0, none⟩) n c) (E.set j (a, m, k)) (ws.set j (X, t)) := by
  have hjl : j < ws.length := (List.getElem?_eq_some_iff.1 hj).1
  obtain ⟨cs, hg⟩ := h.row.block g rfl
  have hint : ∀ {Z : List Int} {x : Value}, ownE intE w base x Z → ownE intE (w.setCell ⟨g, j, none⟩ (.slice a m k)) base x Z := fun {Z x} hx => hx.kept fun i hi => Below.heap_setCell _ _ _ _ (fun e => by
    have e2 : i = g := e
    subst e2
    obtain ⟨cs2, h2⟩ := hx.block i hi
    rw [hg] at h2
    have := congrArg (fun o => match o with | some (Obj.cells _ t _) => t | _ => 0) h2
    simp [sliceE, intE] at this)
  refine ⟨own_put rfl h.row (by rw [h.len]; exact hjl) rfl, by simp [h.len], fun i X2 t2 hi => ?_⟩
  rw [List.getElem?_set] at hi
  by_cases e : j = i
  · subst e
    rw [if_pos rfl, if_pos hjl] at hi
    simp only [Option.some.injEq, Prod.mk.injEq] at hi
    obtain ⟨rfl, rfl⟩ := hi
    exact ⟨(a, m, k), by rw [List.getElem?_set, if_pos rfl, if_pos (by rw [h.len]; exact hjl)], hint ho⟩
  · rw [if_neg e] at hi
    obtain ⟨e2, h1, h2⟩ := h.each i X2 t2 hi
    exact ⟨e2, by rw [List.getElem?_set, if_neg e]; exact h1, hint h2⟩
/-- A count that tells 1 of just the pairs of A. -/
def Flag (L : Cn) (A : Int × Int → Prop) : Prop := GoodC L ∧ ∀ q, (A q → getC L q = 1) ∧ (¬ A q → getC L q = 0)
set_option maxRecDepth 100000 in
theorem Flag.nil : Flag [] (fun _ => False) := ⟨GoodC.nil, fun _ => ⟨fun h => h.elim, fun _ => rfl⟩⟩
set_option maxRecDepth 100000 in
theorem Flag.iff {L : Cn} {A B : Int × Int → Prop} (h : Flag L A) (k : ∀ q, A q ↔ B q) : Flag L B := ⟨h.1, fun q => ⟨fun hb => (h.2 q).1 ((k q).2 hb), fun hb => (h.2 q).2 fun ha => hb ((k q).1 ha)⟩⟩
set_option maxRecDepth 100000 in
theorem Flag.add {L : Cn} {A : Int × Int → Prop} (h : Flag L A) {p : Int × Int} (hp : FitsPr p) (hA : ¬ A p) : ∃ M, addC L p 1 1 = (M, 0) ∧ Flag M (fun q => A q ∨ q = p) ∧ M.length ≤ L.length + 1 := by
  have h0 := (h.2 p).2 hA
  have ha := add2 (L := L) (p := p) (t := 1) (by decide) (by omega) (by omega)
  rw [h0] at ha
  refine ⟨_, ha, ⟨h.1.set hp (by decide), fun q => ?_⟩, set_len h.1.ris _ _⟩
  rw [get_set h.1.ris]
  by_cases e : q = p
  · rw [if_pos e]
    exact ⟨fun _ => rfl, fun k => absurd (.inr e) k⟩
  · rw [if_neg e]
    exact ⟨fun k => (h.2 q).1 (k.resolve_right e), fun k => (h.2 q).2 fun a => k (.inl a)⟩
set_option maxRecDepth 100000 in
theorem Flag.keys {L : Cn} {A : Int × Int → Prop} (h : Flag L A) (q : Int × Int) : q ∈ keysC L ↔ A q := by
  rw [keys_get h.1]
  constructor
  · intro k
    refine Classical.byContradiction fun a => ?_
    have := (h.2 q).2 a
    omega
  · intro a
    have := (h.2 q).1 a
    omega
/-- What Merge of the document's index tells, and leaves. -/
def RMrgRet (base K : Nat) (v u : Value) (E : List Hd) (ws : List Wd) (p : Int × Int) (s : Int) (w : World) (e : Ending) (w' : World) : Prop :=
  ∃ (T : Int) (r : Value) (Y : List (Int × Int)) (v' : Value) (E' : List Hd), e = .returned (.tuple #[.int .i64 T, r]) ∧ T + lenW (mergeWs p s ws) = lenW ws ∧ ownE pairE w' w.heap.size r Y ∧ Y.Pairwise pb ∧ (∀ q, q ∈ Y ↔ totW (mergeWs p s ws) q ≠ totW ws q) ∧
    RIx w' base K v' u E' (mergeWs p s ws) ∧ Kept (fun i => i = K) w w' ∧ ∀ i, RMine K v' u E' i → RMine K v u E i ∨ w.heap.size ≤ i
end Go.Proofs.YtejcemmhhpbchaaGreat
