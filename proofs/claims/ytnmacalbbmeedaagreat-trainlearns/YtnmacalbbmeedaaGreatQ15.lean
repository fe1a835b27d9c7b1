/- Texts in one: IxM, BIns, IxPut, ArgC. -/
import Derived.Test.YtnmacalbbmeedaaGreatQ13
import Derived.Test.YtnmacalbbmeedaaGreatQ14
import Derived.Test.YtnmacalbbmeedaaGreatQ04
import Derived.Deep.RegionHeld3
import Derived.Test.YtnmacalbbmeedaaGreatQ12
/- An index in memory: its blocks are told apart by labels. -/
namespace Go.Proofs.YtnmacalbbmeedaaGreat
open Go.RowKit Go.Maps

/-- What a block of an index is. -/
inductive Lab where
  | no
  | idx
  | words
  | cts
  | cmap
  | pmap
  | box (j : Nat)
  | row (j : Nat)
  | pl (q : Int × Int)
/-- An index as plain lists: its words' symbols and counts, the pairs' counts, the pairs' places, how many positions, how many words were looked at. -/
structure Mdl where
  ws : List (List Int × Int)
  cnt : Cn
  pl : Int × Int → List Int
  pos : Int
  tou : Int
def wordE : Elt (Nat × Int) where
  ty := 126
  sl := 100
  n := 2
  bytes := 16
  zero := .agg #[.pointer none, .int .i64 0]
  enc := fun x => [.pointer (some ⟨x.1, 0, none⟩), .int .i64 x.2]
  under := Tryz.underlying100
  info := by kernel_rfl
  pos := by decide
  small := by decide
  zlen := by kernel_rfl
  len := fun _ => rfl
  one := fun x u hu => by
    simp only [List.mem_cons, List.not_mem_nil, or_false] at hu
    rcases hu with rfl | rfl <;> rfl
structure Ix (w : World) (lab : Nat → Lab) (K : Nat) (wv : Value) (Kc : Nat) (mc : Option Nat) (b N : Nat) (V : Int × Int → Value) (E : List (Nat × Int)) (M : Mdl) : Prop where
  box : w.heap[K]? = some (.cells #[wv, .pointer (some ⟨Kc, 0, none⟩), .map (some b), .int .i64 M.pos, .int .i64 M.tou] 102 (0, 0))
  row : ownE wordE w 0 wv E
  len : E.length = M.ws.length
  seqs : ∀ j X t, M.ws[j]? = some (X, t) → ∃ k g Y, E[j]? = some (k, t) ∧ SeqO w k g X Y ∧ lab k = .box j ∧ lab g = .row j
  cts : Cts w Kc mc M.cnt
  vmap : VMap w b N V
  rows : ∀ q, ownE intE w 0 (V q) (M.pl q)
  lK : lab K = .idx
  lw : ∀ g, wv.ownBlock = some g → lab g = .words
  lc : lab Kc = .cts
  lm : ∀ g, mc = some g → lab g = .cmap
  lb : lab b = .pmap
  lp : ∀ q g, (V q).ownBlock = some g → lab g = .pl q
  fresh : ∀ i, w.heap.size ≤ i → lab i = .no
variable {w w' : World} {lab lab' : Nat → Lab} {K : Nat} {wv : Value} {Kc : Nat} {mc : Option Nat} {b N : Nat} {V : Int × Int → Value} {E : List (Nat × Int)} {M : Mdl}
set_option maxRecDepth 100000 in
theorem Ix.ltK (h : Ix w lab K wv Kc mc b N V E M) : K < w.heap.size := (Array.getElem?_eq_some_iff.1 h.box).1
set_option maxRecDepth 100000 in
/-- Other blocks turn. -/
theorem Ix.turn (h : Ix w lab K wv Kc mc b N V E M) (hk : ∀ i, i < w.heap.size → lab i ≠ .no → w'.heap[i]? = w.heap[i]?) (hz : w.heap.size ≤ w'.heap.size) : Ix w' lab K wv Kc mc b N V E M := by
  have hK := h.ltK
  have hb := h.vmap.lt
  refine ⟨(hk K hK (by rw [h.lK]; simp)).trans h.box, h.row.kept fun g hg => hk g (h.row.lt g hg).2 (by rw [h.lw g hg]; simp), h.len, fun j X t hj => ?_, h.cts.kept fun k hlt hm => hk k hlt ?_, h.vmap.kept (hk b hb (by rw [h.lb]; simp)), fun q => (h.rows q).kept fun g hg => hk g ((h.rows q).lt g hg).2 (by rw [h.lp q g hg]; simp), h.lK, h.lw, h.lc, h.lm, h.lb, h.lp, fun i hi => h.fresh i (Nat.le_trans hz hi)⟩
  · obtain ⟨k, g, Y, e, hs, l1, l2⟩ := h.seqs j X t hj
    exact ⟨k, g, Y, e, hs.kept (hk k hs.ltK (by rw [l1]; simp)) (hk g hs.ltg (by rw [l2]; simp)), l1, l2⟩
  · rcases hm with rfl | e
    · rw [h.lc]; simp
    · rw [h.lm k e.symm]; simp
set_option maxRecDepth 100000 in
theorem Ix.below (h : Ix w lab K wv Kc mc b N V E M) (hb : Below w.heap.size w w') : Ix w' lab K wv Kc mc b N V E M := h.turn (fun i hi _ => hb.block i hi) hb.size
set_option maxRecDepth 100000 in
theorem Ix.drew (h : Ix w lab K wv Kc mc b N V E M) : Ix w.drew lab K wv Kc mc b N V E M := h.turn (fun _ _ _ => rfl) (Nat.le_refl _)
def Mine (lab : Nat → Lab) (i : Nat) : Prop := lab i ≠ .no
/-- .. V: the slices that the map of places holds. -/
def IxM (w : World) (lab : Nat → Lab) (K N : Nat) (V : Int × Int → Value) (M : Mdl) : Prop := ∃ wv Kc mc b E, Ix w lab K wv Kc mc b N V E M
/-- What a call leaves that turns the index's blocks, and new ones, alone. -/
structure XRet (lab : Nat → Lab) (w : World) (lab' : Nat → Lab) (w' : World) : Prop where
  kept : Kept (Mine lab) w w'
  sub : ∀ i, i < w.heap.size → Mine lab' i → Mine lab i
set_option maxRecDepth 100000 in
theorem XRet.trans {w1 w2 w3 : World} {l1 l2 l3 : Nat → Lab} (h : XRet l1 w1 l2 w2) (k : XRet l2 w2 l3 w3) : XRet l1 w1 l3 w3 :=
  ⟨h.kept.trans k.kept fun i hi hm => h.sub i hi hm, fun i hi hm => h.sub i hi (k.sub i (Nat.lt_of_lt_of_le hi h.kept.size) hm)⟩
set_option maxRecDepth 100000 in
theorem XRet.refl (lab : Nat → Lab) (w : World) : XRet lab w lab w := ⟨Kept.refl _ w, fun _ _ h => h⟩
set_option maxRecDepth 100000 in
theorem XRet.below (hb : Below w.heap.size w w') : XRet lab w lab w' := ⟨Kept.of_below hb (Nat.le_refl _), fun _ _ h => h⟩
set_option maxRecDepth 100000 in
/-- A block that is none of the index's stays so, and as it was. -/
theorem XRet.out (h : XRet lab w lab' w') {i : Nat} (hi : i < w.heap.size) (hl : lab i = .no) : lab' i = .no ∧ w'.heap[i]? = w.heap[i]? := by
  refine ⟨?_, h.kept.block i hi fun hm => hm hl⟩
  cases e : lab' i <;> first | rfl | exact absurd hl (h.sub i hi (by unfold Mine; rw [e]; simp))
set_option maxRecDepth 100000 in
theorem XRet.size (h : XRet lab w lab' w') : w.heap.size ≤ w'.heap.size := h.kept.size
set_option maxRecDepth 100000 in
theorem XRet.drew (h : XRet lab w lab' w') : XRet lab w lab' w'.drew := ⟨h.kept.drew, h.sub⟩
set_option maxRecDepth 100000 in
theorem IxM.below (h : IxM w lab K N V M) (hb : Below w.heap.size w w') : IxM w' lab K N V M := by
  obtain ⟨wv, Kc, mc, b, E, h⟩ := h
  exact ⟨wv, Kc, mc, b, E, h.below hb⟩
set_option maxRecDepth 100000 in
theorem IxM.drew (h : IxM w lab K N V M) : IxM w.drew lab K N V M := by
  obtain ⟨wv, Kc, mc, b, E, h⟩ := h
  exact ⟨wv, Kc, mc, b, E, h.drew⟩
set_option maxRecDepth 100000 in
theorem IxM.mono {N' : Nat} (h : IxM w lab K N V M) (hN : N ≤ N') : IxM w lab K N' V M := by
  obtain ⟨wv, Kc, mc, b, E, h⟩ := h
  exact ⟨wv, Kc, mc, b, E, { h with vmap := h.vmap.mono hN }⟩
set_option maxRecDepth 100000 in
theorem IxM.ltK (h : IxM w lab K N V M) : K < w.heap.size := by obtain ⟨wv, Kc, mc, b, E, h⟩ := h; exact h.ltK
set_option maxRecDepth 100000 in
theorem IxM.fresh (h : IxM w lab K N V M) {i : Nat} (hi : w.heap.size ≤ i) : lab i = .no := by obtain ⟨wv, Kc, mc, b, E, h⟩ := h; exact h.fresh i hi
set_option maxRecDepth 100000 in
theorem IxM.mine (h : IxM w lab K N V M) : lab K = .idx := by obtain ⟨wv, Kc, mc, b, E, h⟩ := h; exact h.lK
set_option maxRecDepth 100000 in
/-- What others do leaves the index. -/
theorem IxM.other {S : Nat → Prop} (h : IxM w lab K N V M) (hk : Kept S w w') (hS : ∀ i, i < w.heap.size → S i → lab i = .no) : IxM w' lab K N V M := by
  obtain ⟨wv, Kc, mc, b, E, h⟩ := h
  exact ⟨wv, Kc, mc, b, E, h.turn (fun i hi hm => hk.block i hi fun hs => hm (hS i hi hs)) hk.size⟩
set_option maxRecDepth 100000 in
theorem Ix.cells (h : Ix w lab K wv Kc mc b N V E M) : w.cell? ⟨K, 0, none⟩ = some wv ∧ w.cell? ⟨K, 1, none⟩ = some (.pointer (some ⟨Kc, 0, none⟩)) ∧ w.cell? ⟨K, 2, none⟩ = some (.map (some b)) ∧ w.cell? ⟨K, 3, none⟩ = some (.int .i64 M.pos) ∧ w.cell? ⟨K, 4, none⟩ = some (.int .i64 M.tou) ∧ ∀ j, w.frozen? ⟨K, j, none⟩ = false := by
  refine ⟨?_, ?_, ?_, ?_, ?_, fun j => Lib.frozen_of_heap h.box j⟩ <;> (rw [cell_of_row w K _ _ 102 (0, 0) h.box]; rfl)
set_option maxRecDepth 100000 in
/-- One word's sequence is another one. -/
theorem Ix.seqAt (h : Ix w lab K wv Kc mc b N V E M) {j k g : Nat} {X' Y' : List Int} {t : Int} (he : E[j]? = some (k, t)) (hlk : lab k = .box j) (hlg : lab g = .row j) (hs : SeqO w' k g X' Y') (hk : Kept (fun i => i = g ∨ i = k) w w') :
    Ix w' lab K wv Kc mc b N V E { M with ws := M.ws.set j (X', t) } := by
  have ho : ∀ i, i < w.heap.size → lab i ≠ .box j → lab i ≠ .row j → w'.heap[i]? = w.heap[i]? := fun i hi h1 h2 => hk.block i hi (by rintro (rfl | rfl) <;> contradiction)
  refine ⟨(ho K h.ltK (by rw [h.lK]; simp) (by rw [h.lK]; simp)).trans h.box, h.row.kept fun g hg => ho g (h.row.lt g hg).2 (by rw [h.lw g hg]; simp) (by rw [h.lw g hg]; simp), by rw [h.len]; simp, fun i X2 t2 hi => ?_, h.cts.kept fun k hlt hm => ho k hlt ?_ ?_, h.vmap.kept (ho b h.vmap.lt (by rw [h.lb]; simp) (by rw [h.lb]; simp)), fun q => (h.rows q).kept fun g hg => ho g ((h.rows q).lt g hg).2 (by rw [h.lp q g hg]; simp) (by rw [h.lp q g hg]; simp), h.lK, h.lw, h.lc, h.lm, h.lb, h.lp, fun i hi => h.fresh i (Nat.le_trans hk.size hi)⟩
  · simp only at hi
    rw [List.getElem?_set] at hi
    by_cases e : j = i
    · subst e
      rw [if_pos rfl] at hi
      split at hi
      · simp only [Option.some.injEq, Prod.mk.injEq] at hi
        obtain ⟨rfl, rfl⟩ := hi
        exact ⟨k, g, Y', he, hs, hlk, hlg⟩
      · cases hi
    · rw [if_neg e] at hi
      obtain ⟨k2, g2, Y2, e2, hs2, l1, l2⟩ := h.seqs i X2 t2 hi
      exact ⟨k2, g2, Y2, e2, hs2.kept (ho k2 hs2.ltK (by rw [l1]; simpa using fun e3 : i = j => e e3.symm) (by rw [l1]; simp)) (ho g2 hs2.ltg (by rw [l2]; simp) (by rw [l2]; simpa using fun e3 : i = j => e e3.symm)), l1, l2⟩
  · rcases hm with rfl | e
    · rw [h.lc]; simp
    · rw [h.lm k e.symm]; simp
  · rcases hm with rfl | e
    · rw [h.lc]; simp
    · rw [h.lm k e.symm]; simp
set_option maxRecDepth 100000 in
/-- The counts are others. -/
theorem Ix.ctsAt (h : Ix w lab K wv Kc mc b N V E M) {L' : Cn} (hr : CRet Kc mc L' w w') : ∃ lab', IxM w' lab' K N V { M with cnt := L' } ∧ XRet lab w lab' w' ∧ w'.heap[K]? = w.heap[K]? ∧ ∀ i, w.heap.size ≤ i → lab' i ≠ .no → ∃ es clock, w'.heap[i]? = some (.map es clock) := by
  obtain ⟨m', h1, h2, h3⟩ := hr
  obtain ⟨lab', hl⟩ : ∃ lab' : Nat → Lab, lab' = fun i => if i < w.heap.size then lab i else if some i = m' then .cmap else .no := ⟨_, rfl⟩
  have hold : ∀ i, i < w.heap.size → lab' i = lab i := fun i hi => by rw [hl]; simp [hi]
  have ho : ∀ i, i < w.heap.size → lab i ≠ .cts → lab i ≠ .cmap → w'.heap[i]? = w.heap[i]? := fun i hi k1 k2 => h2.block i hi (by
    rintro (rfl | e)
    · exact k1 h.lc
    · exact k2 (h.lm i e.symm))
  have hK := h.ltK
  have hc := h.cts.lt
  have hb := h.vmap.lt
  refine ⟨lab', ⟨wv, Kc, m', b, E, (ho K hK (by rw [h.lK]; simp) (by rw [h.lK]; simp)).trans h.box, h.row.kept fun g hg => ho g (h.row.lt g hg).2 (by rw [h.lw g hg]; simp) (by rw [h.lw g hg]; simp), h.len, fun j X t hj => ?_, h1, h.vmap.kept (ho b hb (by rw [h.lb]; simp) (by rw [h.lb]; simp)), fun q => (h.rows q).kept fun g hg => ho g ((h.rows q).lt g hg).2 (by rw [h.lp q g hg]; simp) (by rw [h.lp q g hg]; simp), by rw [hold K hK]; exact h.lK, fun g hg => by rw [hold g (h.row.lt g hg).2]; exact h.lw g hg, by rw [hold Kc hc]; exact h.lc, fun g hg => ?_, by rw [hold b hb]; exact h.lb, fun q g hg => by rw [hold g ((h.rows q).lt g hg).2]; exact h.lp q g hg, fun i hi => by
    have hs := h2.size
    rw [hl]; simp only [show ¬ i < w.heap.size by omega, if_false]
    rw [if_neg]; intro e; have := h1.mlt (.inr e); omega⟩, ⟨?_, ?_⟩, ho K hK (by rw [h.lK]; simp) (by rw [h.lK]; simp), ?_⟩
  · obtain ⟨k, g, Y, e, hs, l1, l2⟩ := h.seqs j X t hj
    exact ⟨k, g, Y, e, hs.kept (ho k hs.ltK (by rw [l1]; simp) (by rw [l1]; simp)) (ho g hs.ltg (by rw [l2]; simp) (by rw [l2]; simp)), by rw [hold k hs.ltK]; exact l1, by rw [hold g hs.ltg]; exact l2⟩
  · rcases h3 with rfl | ⟨g2, rfl, hg2⟩
    · rw [hold g (h.cts.mlt (.inr hg.symm))]; exact h.lm g hg
    · cases hg
      rw [hl]; simp [show ¬ g < w.heap.size by omega]
  · exact ⟨h2.os, h2.tape, h2.output, h2.size, fun i hi hm => ho i hi (fun e => hm (by unfold Mine; rw [e]; simp)) (fun e => hm (by unfold Mine; rw [e]; simp))⟩
  · intro i hi hm
    unfold Mine at hm ⊢
    rwa [hold i hi] at hm
  · intro i hi hm
    rw [hl] at hm
    simp only [show ¬ i < w.heap.size by omega, if_false] at hm
    by_cases e : some i = m'
    · have h5 := h1.2
      rw [← e] at h5
      exact CMap.block h5
    · rw [if_neg e] at hm; exact absurd rfl hm
set_option maxRecDepth 100000 in
/-- A pair's places are others: the map is turned, and the pair's row, or a new one. -/
theorem Ix.plAt (h : Ix w lab K wv Kc mc b N V E M) {N' : Nat} {p : Int × Int} {r : Value} {L' : List Int} (hv : VMap w' b N' (upd V p r)) (hr : ownE intE w' 0 r L') (hk : Kept (fun i => i = b ∨ some i = (V p).ownBlock) w w') (hn : ∀ g, r.ownBlock = some g → some g = (V p).ownBlock ∨ w.heap.size ≤ g) :
    ∃ lab', IxM w' lab' K N' (upd V p r) { M with pl := upd M.pl p L' } ∧ XRet lab w lab' w' ∧ w'.heap[K]? = w.heap[K]? := by
  obtain ⟨lab', hl⟩ : ∃ lab' : Nat → Lab, lab' = fun i => if i < w.heap.size then lab i else if some i = r.ownBlock then .pl p else .no := ⟨_, rfl⟩
  have hold : ∀ i, i < w.heap.size → lab' i = lab i := fun i hi => by rw [hl]; simp [hi]
  have ho : ∀ i, i < w.heap.size → lab i ≠ .pmap → lab i ≠ .pl p → w'.heap[i]? = w.heap[i]? := fun i hi k1 k2 => hk.block i hi (by
    rintro (rfl | e)
    · exact k1 h.lb
    · exact k2 (h.lp p i e.symm))
  have hK := h.ltK
  have hc := h.cts.lt
  have hb := h.vmap.lt
  refine ⟨lab', ⟨wv, Kc, mc, b, E, (ho K hK (by rw [h.lK]; simp) (by rw [h.lK]; simp)).trans h.box, h.row.kept fun g hg => ho g (h.row.lt g hg).2 (by rw [h.lw g hg]; simp) (by rw [h.lw g hg]; simp), h.len, fun j X t hj => ?_, h.cts.kept fun k hlt hm => ho k hlt ?_ ?_, hv, fun q => ?_, by rw [hold K hK]; exact h.lK, fun g hg => by rw [hold g (h.row.lt g hg).2]; exact h.lw g hg, by rw [hold Kc hc]; exact h.lc, fun g hg => by rw [hold g (h.cts.mlt (.inr hg.symm))]; exact h.lm g hg, by rw [hold b hb]; exact h.lb, fun q g hg => ?_, fun i hi => by
    have hs := hk.size
    rw [hl]; simp only [show ¬ i < w.heap.size by omega, if_false]
    rw [if_neg]; intro e; have := (hr.lt i e.symm).2; omega⟩, ⟨?_, ?_⟩, ho K hK (by rw [h.lK]; simp) (by rw [h.lK]; simp)⟩
  · obtain ⟨k, g, Y, e, hs, l1, l2⟩ := h.seqs j X t hj
    exact ⟨k, g, Y, e, hs.kept (ho k hs.ltK (by rw [l1]; simp) (by rw [l1]; simp)) (ho g hs.ltg (by rw [l2]; simp) (by rw [l2]; simp)), by rw [hold k hs.ltK]; exact l1, by rw [hold g hs.ltg]; exact l2⟩
  · rcases hm with rfl | e
    · rw [h.lc]; simp
    · rw [h.lm k e.symm]; simp
  · rcases hm with rfl | e
    · rw [h.lc]; simp
    · rw [h.lm k e.symm]; simp
  · by_cases e : q = p
    · subst e; show ownE intE w' 0 (upd V q r q) (upd M.pl q L' q); rw [upd_same, upd_same]; exact hr
    · show ownE intE w' 0 (upd V p r q) (upd M.pl p L' q)
      rw [upd_other _ _ _ e, upd_other _ _ _ e]
      exact (h.rows q).kept fun g hg => ho g ((h.rows q).lt g hg).2 (by rw [h.lp q g hg]; simp) (by rw [h.lp q g hg]; simpa using e)
  · by_cases e : q = p
    · subst e
      rw [upd_same] at hg
      rcases hn g hg with e2 | e2
      · rw [hold g ((h.rows q).lt g e2.symm).2]; exact h.lp q g e2.symm
      · rw [hl]; simp [show ¬ g < w.heap.size by omega, hg]
    · rw [upd_other _ _ _ e] at hg
      rw [hold g ((h.rows q).lt g hg).2]; exact h.lp q g hg
  · exact ⟨hk.os, hk.tape, hk.output, hk.size, fun i hi hm => ho i hi (fun e => hm (by unfold Mine; rw [e]; simp)) (fun e => hm (by unfold Mine; rw [e]; simp))⟩
  · intro i hi hm
    unfold Mine at hm ⊢
    rwa [hold i hi] at hm
set_option maxRecDepth 100000 in
/-- The two numbers are others. -/
theorem Ix.cellAt (h : Ix w lab K wv Kc mc b N V E M) {p t : Int} (hb : w'.heap[K]? = some (.cells #[wv, .pointer (some ⟨Kc, 0, none⟩), .map (some b), .int .i64 p, .int .i64 t] 102 (0, 0))) (hk : Kept (fun i => i = K) w w') : Ix w' lab K wv Kc mc b N V E { M with pos := p, tou := t } := by
  have ho : ∀ i, i < w.heap.size → lab i ≠ .idx → w'.heap[i]? = w.heap[i]? := fun i hi h1 => hk.block i hi (by rintro rfl; exact h1 h.lK)
  refine ⟨hb, h.row.kept fun g hg => ho g (h.row.lt g hg).2 (by rw [h.lw g hg]; simp), h.len, fun j X t hj => ?_, h.cts.kept fun k hlt hm => ho k hlt ?_, h.vmap.kept (ho b h.vmap.lt (by rw [h.lb]; simp)), fun q => (h.rows q).kept fun g hg => ho g ((h.rows q).lt g hg).2 (by rw [h.lp q g hg]; simp), h.lK, h.lw, h.lc, h.lm, h.lb, h.lp, fun i hi => h.fresh i (Nat.le_trans hk.size hi)⟩
  · obtain ⟨k, g, Y, e, hs, l1, l2⟩ := h.seqs j X t hj
    exact ⟨k, g, Y, e, hs.kept (ho k hs.ltK (by rw [l1]; simp)) (ho g hs.ltg (by rw [l2]; simp)), l1, l2⟩
  · rcases hm with rfl | e
    · rw [h.lc]; simp
    · rw [h.lm k e.symm]; simp
set_option maxRecDepth 100000 in
/-- One word more: its sequence is new, the row of words is turned, or new, and lies in the index again. -/
theorem Ix.wordAt (h : Ix w lab K wv Kc mc b N V E M) {wv' : Value} {k g : Nat} {X Y : List Int} {t : Int} (hs : SeqO w' k g X Y) (hk1 : w.heap.size ≤ k) (hk2 : w.heap.size ≤ g) (hne : k ≠ g) (hr : ownE wordE w' 0 wv' (E ++ [(k, t)])) (hn : ∀ i, wv'.ownBlock = some i → some i = wv.ownBlock ∨ (w.heap.size ≤ i ∧ i ≠ k ∧ i ≠ g))
    (hb : w'.heap[K]? = some (.cells #[wv', .pointer (some ⟨Kc, 0, none⟩), .map (some b), .int .i64 M.pos, .int .i64 M.tou] 102 (0, 0))) (hk : Kept (fun i => i = K ∨ some i = wv.ownBlock) w w') :
    ∃ lab', IxM w' lab' K N V { M with ws := M.ws ++ [(X, t)] } ∧ XRet lab w lab' w' := by
  obtain ⟨lab', hl⟩ : ∃ lab' : Nat → Lab, lab' = fun i => if i < w.heap.size then lab i else if i = k then .box M.ws.length else if i = g then .row M.ws.length else if some i = wv'.ownBlock then .words else .no := ⟨_, rfl⟩
  have hold : ∀ i, i < w.heap.size → lab' i = lab i := fun i hi => by rw [hl]; simp [hi]
  have ho : ∀ i, i < w.heap.size → lab i ≠ .idx → lab i ≠ .words → w'.heap[i]? = w.heap[i]? := fun i hi h1 h2 => hk.block i hi (by
    rintro (rfl | e)
    · exact h1 h.lK
    · exact h2 (h.lw i e.symm))
  have hK := h.ltK
  have hc := h.cts.lt
  have hvb := h.vmap.lt
  refine ⟨lab', ⟨wv', Kc, mc, b, E ++ [(k, t)], hb, hr, by simp [h.len], fun j X2 t2 hj => ?_, h.cts.kept fun k hlt hm => ho k hlt ?_ ?_, h.vmap.kept (ho b hvb (by rw [h.lb]; simp) (by rw [h.lb]; simp)), fun q => (h.rows q).kept fun g hg => ho g ((h.rows q).lt g hg).2 (by rw [h.lp q g hg]; simp) (by rw [h.lp q g hg]; simp), by rw [hold K hK]; exact h.lK, fun i hi => ?_, by rw [hold Kc hc]; exact h.lc, fun g hg => by rw [hold g (h.cts.mlt (.inr hg.symm))]; exact h.lm g hg, by rw [hold b hvb]; exact h.lb, fun q g hg => by rw [hold g ((h.rows q).lt g hg).2]; exact h.lp q g hg, fun i hi => by
    have hz := hk.size
    have h3 := hs.ltK; have h4 := hs.ltg
    rw [hl]; simp only [show ¬ i < w.heap.size by omega, show ¬ i = k by omega, show ¬ i = g by omega, if_false]
    rw [if_neg]; intro e; have := (hr.lt i e.symm).2; omega⟩, ?_, ?_⟩
  · simp only at hj
    rw [List.getElem?_append] at hj
    split at hj
    · rename_i hlt
      obtain ⟨k2, g2, Y2, e2, hs2, l1, l2⟩ := h.seqs j X2 t2 hj
      exact ⟨k2, g2, Y2, by rw [List.getElem?_append_left (by rw [h.len]; exact hlt)]; exact e2, hs2.kept (ho k2 hs2.ltK (by rw [l1]; simp) (by rw [l1]; simp)) (ho g2 hs2.ltg (by rw [l2]; simp) (by rw [l2]; simp)), by rw [hold k2 hs2.ltK]; exact l1, by rw [hold g2 hs2.ltg]; exact l2⟩
    · rename_i hlt
      have hz : j - M.ws.length = 0 := by
        have := (List.getElem?_eq_some_iff.1 hj).1
        simp at this; omega
      rw [hz] at hj
      simp only [List.getElem?_cons_zero, Option.some.injEq, Prod.mk.injEq] at hj
      obtain ⟨rfl, rfl⟩ := hj
      have hjl : j = M.ws.length := by omega
      refine ⟨k, g, Y, by rw [hjl, ← h.len]; simp, hs, by rw [hl]; simp [show ¬ k < w.heap.size by omega, hjl], by rw [hl]; simp [show ¬ g < w.heap.size by omega, hjl, Ne.symm hne]⟩
  · rcases hm with rfl | e
    · rw [h.lc]; simp
    · rw [h.lm k e.symm]; simp
  · rcases hm with rfl | e
    · rw [h.lc]; simp
    · rw [h.lm k e.symm]; simp
  · rcases hn i hi with e | ⟨e1, e2, e3⟩
    · rw [hold i (h.row.lt i e.symm).2]; exact h.lw i e.symm
    · rw [hl]; simp [show ¬ i < w.heap.size by omega, e2, e3, hi]
  · exact ⟨hk.os, hk.tape, hk.output, hk.size, fun i hi hm => ho i hi (fun e => hm (by unfold Mine; rw [e]; simp)) (fun e => hm (by unfold Mine; rw [e]; simp))⟩
  · intro i hi hm
    unfold Mine at hm ⊢
    rwa [hold i hi] at hm
end Go.Proofs.YtnmacalbbmeedaaGreat
/- slices.BinarySearch of a number above all, and slices.Insert behind the last. -/
namespace Go.Proofs.YtnmacalbbmeedaaGreat
open Go.RowKit

set_option maxRecDepth 100000 in
theorem bcNaN_any (a : Int) (w : World) : Calls Tryz.prog 92 #[.int .i64 a] w fun e w' => e = .returned (.bool false) ∧ w' = w := by
  go_enter Tryz.func92, Tryz.ntmps92
  go_wp2
  go_ret
  exact ⟨by simp, rfl⟩
set_option maxRecDepth 100000 in
theorem bless_any (x y : Int) (w : World) : Calls Tryz.prog 124 #[.int .i64 x, .int .i64 y] w fun e w' => e = .returned (.bool (decide (x < y))) ∧ w' = w := by
  go_enter Tryz.func124, Tryz.ntmps124
  go_wp2_with (go_at_call 92; refine (bcNaN_any _ _).mono ?_; rintro e w' ⟨rfl, rfl⟩)
  go_ret
  exact ⟨rfl, rfl⟩
set_option maxRecDepth 100000 in
set_option maxHeartbeats 4000000 in
theorem bsearch_any (v : Value) (L : List Int) (x : Int) (w : World) (h : eltsAt intE w v L) (hlt : ∀ y ∈ L, y < x) (hl : L.length ≤ 1000000) :
    Calls Tryz.prog 108 #[v, .int .i64 x] w fun e w' => e = .returned (.tuple #[.int .i64 (L.length : Int), .bool false]) ∧ w' = w := by
  have H := Lib.hid h
  have HL := Lib.hid hlt
  obtain ⟨a, cap, rfl, _⟩ := h
  obtain ⟨n, hn⟩ : ∃ n, L.length = n := ⟨_, rfl⟩
  have HN := Lib.hid hn
  rw [hn] at H hl ⊢
  clear hlt hn
  go_enter Tryz.func108, Tryz.ntmps108
  go_wp2
  go_loopw [7, 8] (fun i j wr => ∃ k : Nat, i = .int .i64 (k : Int) ∧ j = .int .i64 (n : Int) ∧ k ≤ n ∧ wr = w) (fun i _ _ => n - (intOf i).toNat)
  case atStart => exact ⟨0, rfl, rfl, Nat.zero_le _, rfl⟩
  case round =>
    obtain ⟨k, rfl, rfl, hk, rfl⟩ := hrel
    by_cases hgo : k < n
    · obtain ⟨m, hm⟩ : ∃ m, (k + n) / 2 = m := ⟨_, rfl⟩
      have hmn : m < n := by omega
      have hkm : k ≤ m := by omega
      have hmI : ((k : Int) + (n : Int)) / 2 = (m : Int) := by omega
      have hmL : m < L.length := by rw [HN.out]; exact hmn
      obtain ⟨ad, rfl⟩ : ∃ ad, a = some ad := by
        obtain ⟨_, _, e, hc⟩ := H.out
        obtain ⟨ad, e2, _⟩ := hc m hmL
        exact ⟨ad, (Value.slice.inj e).1.trans e2⟩
      have cm := ints_cell H.out (Below.refl _ wr) hmL
      have hy := HL.out _ (List.getElem_mem hmL)
      generalize L[m] = y at cm hy
      go_wp2_with (go_at_call 124; refine (bless_any _ _ _).mono ?_; rintro e w' ⟨rfl, rfl⟩)
      go_roundw
      case rel => exact ⟨m + 1, by simp, by simp, by omega, by simp⟩
      case measure => simp [intOf] <;> omega
    · have hkI : ¬ (k : Int) < (n : Int) := by omega
      obtain rfl : k = n := by omega
      go_wp2
      go_ret2
      exact ⟨rfl, rfl⟩
set_option maxRecDepth 100000 in
set_option maxHeartbeats 4000000 in
theorem binsert_any (base : Nat) (v y : Value) (L : List Int) (x : Int) (w : World) (h : ownE intE w base v L) (hy : eltsAt intE w y [x]) (hn : nilNone y) (hb : base ≤ w.heap.size) (hl : L.length ≤ 1000000) :
    Calls Tryz.prog 109 #[v, .int .i64 (L.length : Int), y] w fun e w' => ∃ r, e = .returned r ∧ ownE intE w' base r (L ++ [x]) ∧ w.grownBy w' v.ownBlock ∧ (r.ownBlock = v.ownBlock ∨ r.ownBlock = some w.heap.size) := by
  have H := Lib.hid h
  have HY := Lib.hid hy
  obtain ⟨a, cap, rfl, hcap⟩ := h.form
  obtain ⟨a2, cap2, rfl, _⟩ := hy
  obtain ⟨v2, hrun, _, _⟩ := ints_tail a L.length cap L.length (L.length : Int) rfl (Nat.le_refl _) hcap h.nilNone
  have hr := hrun w
  obtain ⟨n, hN⟩ : ∃ n, L.length = n := ⟨_, rfl⟩
  have HN := Lib.hid hN
  rw [hN] at H hl hr hcap ⊢
  clear h hrun hN
  simp only [List.length_cons, List.length_nil] at HY hn ⊢
  go_enter Tryz.func109, Tryz.ntmps109
  go_wp2_with (at_builtin; refine wpList_append_elts intE rfl _ _ rfl base _ _ L [x] rfl rfl H.out HY.out hn (by rw [HN.out]; simp; omega) hb ?_; intro r w1 ho1 hg1 hl1)
  go_ret
  exact ⟨_, rfl, ho1, hg1, hl1⟩
end Go.Proofs.YtnmacalbbmeedaaGreat
/- A place kept by a pair, behind those that are there. -/
namespace Go.Proofs.YtnmacalbbmeedaaGreat
open Go.RowKit Go.Maps

set_option maxRecDepth 100000 in
theorem grown_cell {w w' : World} {row : Option Nat} (h : w.grownBy w' row) (a : Addr) (ha : a.block < w.heap.size) (hne : some a.block ≠ row) : w'.cell? a = w.cell? a := World.cell?_of_block (h.block a.block ha hne)
set_option maxRecDepth 100000 in
set_option maxHeartbeats 4000000 in
theorem xput_any (K N : Nat) (lab : Nat → Lab) (V : Int × Int → Value) (M : Mdl) (p q z : Int) (w : World) (h : IxM w lab K N V M) (hp : FitsPr (p, q)) (hz : ∀ y ∈ M.pl (p, q), y < z) (hl : (M.pl (p, q)).length ≤ 100000) (hN : N ≤ 1000000000000) :
    Calls Tryz.prog 88 #[.pointer (some ⟨K, 0, none⟩), .agg #[.int .i64 p, .int .i64 q], .int .i64 z] w fun e w' => e = .returned (.tuple #[]) ∧ ∃ lab' r, IxM w' lab' K (N + 1) (upd V (p, q) r) { M with pl := upd M.pl (p, q) (M.pl (p, q) ++ [z]) } ∧ XRet lab w lab' w' ∧ w'.heap[K]? = w.heap[K]? := by
  obtain ⟨wv, Kc, mc, b, E, h⟩ := h
  obtain ⟨w1, hw1⟩ : ∃ w1, w1 = (w.alloc (.cells #[.int .i64 p, .int .i64 q] 77)).drew := ⟨_, rfl⟩
  obtain ⟨bx, hbx⟩ : ∃ bx, w.heap.size = bx := ⟨_, rfl⟩
  have B1 : Below w.heap.size w w1 := by rw [hw1]; exact ((Below.refl _ w).alloc (Nat.le_refl _) _).drew
  have h1 := h.below B1
  have hs1 : w1.heap.size = w.heap.size + 1 := by rw [hw1]; show (w.alloc _).heap.size = _; simp
  have hrow := h1.rows (p, q)
  have hlk := vlook h1.vmap hp
  obtain ⟨u, hu⟩ : ∃ u, V (p, q) = u := ⟨_, rfl⟩
  obtain ⟨L, hL⟩ : ∃ L, M.pl (p, q) = L := ⟨_, rfl⟩
  rw [hu] at hlk
  rw [hu, hL] at hrow
  rw [hL] at hz hl ⊢
  obtain ⟨w2, hw2⟩ : ∃ w2, w2 = (w1.alloc (.cells #[.int .i64 z] 3)).drew := ⟨_, rfl⟩
  have B2 : Below w1.heap.size w1 w2 := by rw [hw2]; exact ((Below.refl _ w1).alloc (Nat.le_refl _) _).drew
  have hs2 : w2.heap.size = w1.heap.size + 1 := by rw [hw2]; show (w1.alloc _).heap.size = _; simp
  have hone : eltsAt intE w2 (.slice (some ⟨w1.heap.size, 0, none⟩) 1 1) [z] := by rw [hw2]; exact (one_elt intE w1 z).drew 1
  have hK1 := h1.ltK
  have hublk : ∀ g, u.ownBlock = some g → g < w1.heap.size ∧ g ≠ K ∧ g ≠ bx := fun g hg => by
    have l1 := h.lp (p, q) g (by rw [hu]; exact hg)
    refine ⟨(hrow.lt g hg).2, ?_, ?_⟩
    · rintro rfl; rw [h.lK] at l1; cases l1
    · have := ((h.rows (p, q)).lt g (by rw [hu]; exact hg)).2
      omega
  have hbK : b ≠ K := by rintro rfl; have := h.lb; rw [h.lK] at this; cases this
  have hbb : b < bx := by have := h.vmap.lt; omega
  have HC : Hid (∀ W', Below w1.heap.size w1 W' → W'.cell? ⟨bx, 0, none⟩ = some (.int .i64 p) ∧ W'.cell? ⟨bx, 1, none⟩ = some (.int .i64 q) ∧ W'.cell? ⟨K, 2, none⟩ = some (.map (some b))) := Lib.hid (fun W' hW => by
    refine ⟨(hW.cell (show bx < w1.heap.size by omega)).trans ?_, (hW.cell (show bx < w1.heap.size by omega)).trans ?_, (hW.cell hK1).trans h1.cells.2.2.1⟩
    · rw [hw1, ← hbx]; show (w.alloc _).cell? _ = _; simp
    · rw [hw1, ← hbx]; show (w.alloc _).cell? _ = _; simp)
  have hs1' : w1.heap.size = bx + 1 := by omega
  have HI : Hid (Calls Tryz.prog 109 #[u, .int .i64 (L.length : Int), .slice (some ⟨bx + 1, 0, none⟩) 1 1] w2 fun e w' => ∃ r, e = .returned r ∧ ownE intE w' 0 r (L ++ [z]) ∧ w2.grownBy w' u.ownBlock ∧ (r.ownBlock = u.ownBlock ∨ r.ownBlock = some w2.heap.size)) := Lib.hid (by
    rw [← hs1']
    exact binsert_any 0 u (.slice (some ⟨w1.heap.size, 0, none⟩) 1 1) L z w2 (hrow.below B2) hone (someNone _ _ _) (Nat.zero_le _) (by omega))
  have cS := bsearch_any u L z w1 hrow.reads hz (by omega)
  have HS : Hid (∀ r w3, ownE intE w3 0 r (L ++ [z]) → w2.grownBy w3 u.ownBlock → (r.ownBlock = u.ownBlock ∨ r.ownBlock = some w2.heap.size) →
      (w3.cell? ⟨bx, 0, none⟩ = some (.int .i64 p) ∧ w3.cell? ⟨bx, 1, none⟩ = some (.int .i64 q) ∧ w3.cell? ⟨K, 2, none⟩ = some (.map (some b))) ∧ ∃ w4, (Instr.mapUpdate 99 (.map (some b)) (pv (p, q)) r).run Tryz.prog w3 = .ok () w4 ∧
      (w4.cell? ⟨bx, 0, none⟩ = some (.int .i64 p) ∧ w4.cell? ⟨bx, 1, none⟩ = some (.int .i64 q) ∧ w4.cell? ⟨K, 2, none⟩ = some (.map (some b))) ∧ ∃ lab' r, IxM w4 lab' K (N + 1) (upd V (p, q) r) { M with pl := upd M.pl (p, q) (L ++ [z]) } ∧ XRet lab w lab' w4 ∧ w4.heap[K]? = w.heap[K]?) := Lib.hid (fun r w3 ho hg hr => by
    obtain ⟨z0, z1, z2⟩ := HC.out w2 B2
    have hbu : some b ≠ u.ownBlock := fun e => by
      have l1 := h.lp (p, q) b (by rw [hu]; exact e.symm)
      rw [h.lb] at l1; cases l1
    have y : w3.cell? ⟨bx, 0, none⟩ = some (.int .i64 p) ∧ w3.cell? ⟨bx, 1, none⟩ = some (.int .i64 q) ∧ w3.cell? ⟨K, 2, none⟩ = some (.map (some b)) :=
      ⟨(grown_cell hg _ (show bx < w2.heap.size by omega) (fun e => (hublk _ e.symm).2.2 rfl)).trans z0, (grown_cell hg _ (show bx < w2.heap.size by omega) (fun e => (hublk _ e.symm).2.2 rfl)).trans z1, (grown_cell hg _ (show K < w2.heap.size by omega) (fun e => (hublk _ e.symm).2.1 rfl)).trans z2⟩
    have hv3 : VMap w3 b N V := (h1.vmap.kept (B2.block b (by omega))).kept (hg.block b (by omega) hbu)
    obtain ⟨w4, hrun, hv4, ht⟩ := vput hv3 hp hN r
    have hrb : ∀ g, r.ownBlock = some g → g ≠ b := fun g hg2 e => by
      subst e
      rcases hr with e | e
      · exact hbu (by rw [← e, hg2])
      · rw [hg2] at e; cases e; omega
    have ho4 : ownE intE w4 0 r (L ++ [z]) := ho.kept fun g hg2 => turned_heap ht g (hrb g hg2)
    have hk : Kept (fun i => i = b ∨ some i = (V (p, q)).ownBlock) w w4 := by
      have k1 : Kept (fun i => i = b ∨ some i = (V (p, q)).ownBlock) w w2 := Kept.of_below (B1.trans (B2.mono (by omega))) (Nat.le_refl _)
      refine (k1.grown hg fun k e _ => .inr ?_).grown ht.grown fun k e _ => .inl ?_
      · rw [hu, e]
      · cases e; rfl
    obtain ⟨lab', h5, h6, h7⟩ := h.plAt (L' := L ++ [z]) hv4 ho4 hk (fun g hg2 => by
      rw [hu]
      rcases hr with e | e
      · exact .inl (by rw [← e, hg2])
      · rw [hg2] at e; cases e; exact .inr (by omega))
    exact ⟨y, w4, hrun, ⟨(turned_cell ht _ (show bx ≠ b by omega)).trans y.1, (turned_cell ht _ (show bx ≠ b by omega)).trans y.2.1, (turned_cell ht _ (fun e : K = b => hbK e.symm)).trans y.2.2⟩, lab', r, h5, h6, h7⟩)
  obtain ⟨ca, cb, cc⟩ := HC.out w1 (Below.refl _ _)
  have HZ1 := Lib.hid (HC.out w1 (Below.refl _ _))
  have HZ2 := Lib.hid (HC.out w1.drew (Below.refl _ _).drew)
  have HZ3 := Lib.hid (HC.out w2 B2)
  have hw1' := hw1.symm
  have hw2' := hw2.symm
  unfold pv at hlk
  simp only at hlk
  clear h h1 hrow B1 B2 hone hw1 hw2 hublk hu hL hz hl hN hbK hbb hs1 hs2 hK1 HC
  go_enter Tryz.func88, Tryz.ntmps88
  go_wp2_with fail
  go_region
  all_goals (go_wp2_with (go_at_call 108; refine cS.mono ?_; rintro e w' ⟨rfl, rfl⟩))
  all_goals (
    go_region_held3 (fun w' => w'.cell? ⟨bx, 0, none⟩ = some (.int .i64 p) ∧ w'.cell? ⟨bx, 1, none⟩ = some (.int .i64 q) ∧ w'.cell? ⟨K, 2, none⟩ = some (.map (some b))) (first | exact HZ1.out | exact HZ2.out | exact HZ3.out | exact HZ4.out | exact HZ5.out) (first
      | (go_at_call 109
         with_reducible refine HI.out.mono ?_
         rintro e w3 ⟨r, rfl, ho3, hg3, hr3⟩
         obtain ⟨z4, w4, hput, z5, hfin⟩ := HS.out r w3 ho3 hg3 hr3
         have HZ4 := Lib.hid z4
         have HZ5 := Lib.hid z5
         have HF := Lib.hid hfin
         clear ho3 hg3 hr3 z4 z5 hfin
         unfold pv at hput
         simp only at hput)))
  all_goals (go_wp2_with fail)
  all_goals go_end0
  all_goals exact ⟨rfl, HF.out⟩
end Go.Proofs.YtnmacalbbmeedaaGreat
/- Changes as a row that is read. -/
namespace Go.Proofs.YtnmacalbbmeedaaGreat
open Go.RowKit

def FitsCh (x : Chg) : Prop := FitsPr x.1 ∧ FitsZ x.2
set_option maxRecDepth 100000 in
theorem cell_add (ad : Addr) (n j : Nat) (hj : 0 < j) : ad.add (n + j) = ⟨(ad.add n).block, (ad.add n).off + j, none⟩ := by
  unfold Addr.add
  by_cases h : n = 0
  · subst h; simp; omega
  · have : ¬ n + j = 0 := by omega
    simp [h, Nat.add_assoc]
set_option maxRecDepth 100000 in
theorem chgs_at {w wr : World} {L : List Chg} {ad : Addr} {n cap : Nat} (h : eltsAt chgE w (.slice (some ad) n cap) L) (hb : Below w.heap.size w wr) {k : Nat} (hk : k < L.length) :
    wr.cell? (ad.add (k * 3)) = some (.int .i64 L[k].1.1) ∧ wr.cell? ⟨(ad.add (k * 3)).block, (ad.add (k * 3)).off + 1, none⟩ = some (.int .i64 L[k].1.2) ∧ wr.cell? ⟨(ad.add (k * 3)).block, (ad.add (k * 3)).off + 2, none⟩ = some (.int .i64 L[k].2) := by
  have := elts_at h hb hk
  refine ⟨this 0 _ rfl, ?_, ?_⟩
  · rw [← cell_add ad (k * 3) 1 (by omega)]; exact this 1 _ rfl
  · rw [← cell_add ad (k * 3) 2 (by omega)]; exact this 2 _ rfl
end Go.Proofs.YtnmacalbbmeedaaGreat
