/- Texts in one: IxM, IxPut, IxNoteP, IxNote. -/
import Derived.Test.YtejcemmhhpbchaaGreatObj
import Derived.Test.YtejcemmhhpbchaaGreatVMap
import Derived.Test.YtejcemmhhpbchaaGreatCtsV
import Derived.Test.YtejcemmhhpbchaaGreatBIns
import Derived.Test.YtejcemmhhpbchaaGreatArgCV
/- An index in memory: its blocks are told apart by labels. -/
namespace Go.Proofs.YtejcemmhhpbchaaGreat
open Go.RowKit Go.Maps

/-- What a block of an index is. -/
inductive Lab where
  | no
  | idx
  | words
  | cts
  | cmap
  | pmap
  | box (j : Nat)
  | row (j : Nat)
  | pl (q : Int × Int)
/-- An index as plain lists: its words' symbols and counts, the pairs' counts, the pairs' places, how many positions, how many words were looked at. -/
structure Mdl where
  ws : List (List Int × Int)
  cnt : Cn
  pl : Int × Int → List Int
  pos : Int
  tou : Int
def wordE : Elt (Nat × Int) where
  ty := 78
  sl := 66
  n := 2
  bytes := 16
  zero := .agg #[.pointer none, .int .i64 0]
  enc := fun x => [.pointer (some ⟨x.1, 0, none⟩), .int .i64 x.2]
  under := Tryz.underlying66
  info := by kernel_rfl
  pos := by decide
  small := by decide
  zlen := by kernel_rfl
  len := fun _ => rfl
  one := fun x u hu => by
    simp only [List.mem_cons, List.not_mem_nil, or_false] at hu
    rcases hu with rfl | rfl <;> rfl
structure Ix (w : World) (lab : Nat → Lab) (K : Nat) (wv : Value) (Kc : Nat) (mc : Option Nat) (b N : Nat) (V : Int × Int → Value) (E : List (Nat × Int)) (M : Mdl) : Prop where
  box : w.heap[K]? = some (.cells #[wv, .pointer (some ⟨Kc, 0, none⟩), .map (some b), .int .i64 M.pos, .int .i64 M.tou] 68 (0, 0))
  row : ownE wordE w 0 wv E
  len : E.length = M.ws.length
  seqs : ∀ j X t, M.ws[j]? = some (X, t) → ∃ k g Y, E[j]? = some (k, t) ∧ SeqO w k g X Y ∧ lab k = .box j ∧ lab g = .row j
  cts : Cts w Kc mc M.cnt
  vmap : VMap w b N V
  rows : ∀ q, ownE intE w 0 (V q) (M.pl q)
  lK : lab K = .idx
  lw : ∀ g, wv.ownBlock = some g → lab g = .words
  lc : lab Kc = .cts
  lm : ∀ g, mc = some g → lab g = .cmap
  lb : lab b = .pmap
  lp : ∀ q g, (V q).ownBlock = some g → lab g = .pl q
  fresh : ∀ i, w.heap.size ≤ i → lab i = .no
variable {w w' : World} {lab lab' : Nat → Lab} {K : Nat} {wv : Value} {Kc : Nat} {mc : Option Nat} {b N : Nat} {V : Int × Int → Value} {E : List (Nat × Int)} {M : Mdl}
set_option maxRecDepth 100000 in
theorem Ix.ltK (h : Ix w lab K wv Kc mc b N V E M) : K < w.heap.size := (Array.getElem?_eq_some_iff.1 h.box).1
set_option maxRecDepth 100000 in
/-- Other blocks turn. -/
theorem Ix.turn (h : Ix w lab K wv Kc mc b N V E M) (hk : ∀ i, i < w.heap.size → lab i ≠ .no → w'.heap[i]? = w.heap[i]?) (hz : w.heap.size ≤ w'.heap.size) : Ix w' lab K wv Kc mc b N V E M := by
  have hK := h.ltK
  have hb := h.vmap.lt
  refine ⟨(hk K hK (by rw [h.lK]; simp)).trans h.box, h.row.kept fun g hg => hk g (h.row.lt g hg).2 (by rw [h.lw g hg]; simp), h.len, fun j X t hj => ?_, h.cts.kept fun k hlt hm => hk k hlt ?_, h.vmap.kept (hk b hb (by rw [h.lb]; simp)), fun q => (h.rows q).kept fun g hg => hk g ((h.rows q).lt g hg).2 (by rw [h.lp q g hg]; simp), h.lK, h.lw, h.lc, h.lm, h.lb, h.lp, fun i hi => h.fresh i (Nat.le_trans hz hi)⟩
  · obtain ⟨k, g, Y, e, hs, l1, l2⟩ := h.seqs j X t hj
    exact ⟨k, g, Y, e, hs.kept (hk k hs.ltK (by rw [l1]; simp)) (hk g hs.ltg (by rw [l2]; simp)), l1, l2⟩
  · rcases hm with rfl | e
    · rw [h.lc]; simp
    · rw [h.lm k e.symm]; simp
set_option maxRecDepth 100000 in
theorem Ix.below (h : Ix w lab K wv Kc mc b N V E M) (hb : Below w.heap.size w w') : Ix w' lab K wv Kc mc b N V E M := h.turn (fun i hi _ => hb.block i hi) hb.size
set_option maxRecDepth 100000 in
theorem Ix.drew (h : Ix w lab K wv Kc mc b N V E M) : Ix w.drew lab K wv Kc mc b N V E M := h.turn (fun _ _ _ => rfl) (Nat.le_refl _)
def Mine (lab : Nat → Lab) (i : Nat) : Prop := lab i ≠ .no
/-- .. V: the slices that the map of places holds. -/
def IxM (w : World) (lab : Nat → Lab) (K N : Nat) (V : Int × Int → Value) (M : Mdl) : Prop := ∃ wv Kc mc b E, Ix w lab K wv Kc mc b N V E M
/-- What a call leaves that turns the index's blocks, and new ones, alone. -/
structure XRet (lab : Nat → Lab) (w : World) (lab' : Nat → Lab) (w' : World) : Prop where
  kept : Kept (Mine lab) w w'
  sub : ∀ i, i < w.heap.size → Mine lab' i → Mine lab i
set_option maxRecDepth 100000 in
theorem XRet.trans {w1 w2 w3 : World} {l1 l2 l3 : Nat → Lab} (h : XRet l1 w1 l2 w2) (k : XRet l2 w2 l3 w3) : XRet l1 w1 l3 w3 :=
  ⟨h.kept.trans k.kept fun i hi hm => h.sub i hi hm, fun i hi hm => h.sub i hi (k.sub i (Nat.lt_of_lt_of_le hi h.kept.size) hm)⟩
set_option maxRecDepth 100000 in
theorem XRet.refl (lab : Nat → Lab) (w : World) : XRet lab w lab w := ⟨Kept.refl _ w, fun _ _ h => h⟩
set_option maxRecDepth 100000 in
theorem XRet.below (hb : Below w.heap.size w w') : XRet lab w lab w' := ⟨Kept.of_below hb (Nat.le_refl _), fun _ _ h => h⟩
set_option maxRecDepth 100000 in
/-- A block that is none of the index's stays so, and as it was. -/
theorem XRet.out (h : XRet lab w lab' w') {i : Nat} (hi : i < w.heap.size) (hl : lab i = .no) : lab' i = .no ∧ w'.heap[i]? = w.heap[i]? := by
  refine ⟨?_, h.kept.block i hi fun hm => hm hl⟩
  cases e : lab' i <;> first | rfl | exact absurd hl (h.sub i hi (by unfold Mine; rw [e]; simp))
set_option maxRecDepth 100000 in
theorem XRet.size (h : XRet lab w lab' w') : w.heap.size ≤ w'.heap.size := h.kept.size
set_option maxRecDepth 100000 in
theorem XRet.drew (h : XRet lab w lab' w') : XRet lab w lab' w'.drew := ⟨h.kept.drew, h.sub⟩
set_option maxRecDepth 100000 in
theorem IxM.below (h : IxM w lab K N V M) (hb : Below w.heap.size w w') : IxM w' lab K N V M := by
  obtain ⟨wv, Kc, mc, b, E, h⟩ := h
  exact ⟨wv, Kc, mc, b, E, h.below hb⟩
set_option maxRecDepth 100000 in
theorem IxM.drew (h : IxM w lab K N V M) : IxM w.drew lab K N V M := by
  obtain ⟨wv, Kc, mc, b, E, h⟩ := h
  exact ⟨wv, Kc, mc, b, E, h.drew⟩
set_option maxRecDepth 100000 in
theorem IxM.mono {N' : Nat} (h : IxM w lab K N V M) (hN : N ≤ N') : IxM w lab K N' V M := by
  obtain ⟨wv, Kc, mc, b, E, h⟩ := h
  exact ⟨wv, Kc, mc, b, E, { h with vmap := h.vmap.mono hN }⟩
set_option maxRecDepth 100000 in
theorem IxM.ltK (h : IxM w lab K N V M) : K < w.heap.size := by obtain ⟨wv, Kc, mc, b, E, h⟩ := h; exact h.ltK
set_option maxRecDepth 100000 in
theorem IxM.fresh (h : IxM w lab K N V M) {i : Nat} (hi : w.heap.size ≤ i) : lab i = .no := by obtain ⟨wv, Kc, mc, b, E, h⟩ := h; exact h.fresh i hi
set_option maxRecDepth 100000 in
theorem IxM.mine (h : IxM w lab K N V M) : lab K = .idx := by obtain ⟨wv, Kc, mc, b, E, h⟩ := h; exact h.lK
set_option maxRecDepth 100000 in
/-- What others do leaves the index. -/
theorem IxM.other {S : Nat → Prop} (h : IxM w lab K N V M) (hk : Kept S w w') (hS : ∀ i, i < w.heap.size → S i → lab i = .no) : IxM w' lab K N V M := by
  obtain ⟨wv, Kc, mc, b, E, h⟩ := h
  exact ⟨wv, Kc, mc, b, E, h.turn (fun i hi hm => hk.block i hi fun hs => hm (hS i hi hs)) hk.size⟩
set_option maxRecDepth 100000 in
theorem Ix.cells (h : Ix w lab K wv Kc mc b N V E M) : w.cell? ⟨K, 0, none⟩ = some wv ∧ w.cell? ⟨K, 1, none⟩ = some (.pointer (some ⟨Kc, 0, none⟩)) ∧ w.cell? ⟨K, 2, none⟩ = some (.map (some b)) ∧ w.cell? ⟨K, 3, none⟩ = some (.int .i64 M.pos) ∧ w.cell? ⟨K, 4, none⟩ = some (.int .i64 M.tou) ∧ ∀ j, w.frozen? ⟨K, j, none⟩ = false := by
  refine ⟨?_, ?_, ?_, ?_, ?_, fun j => Lib.frozen_of_heap h.box j⟩ <;> (rw [cell_of_row w K _ _ 68 (0, 0) h.box]; rfl)
set_option maxRecDepth 100000 in
/-- One word's sequence is another one. -/
theorem Ix.seqAt (h : Ix w lab K wv Kc mc b N V E M) {j k g : Nat} {X' Y' : List Int} {t : Int} (he : E[j]? = some (k, t)) (hlk : lab k = .box j) (hlg : lab g = .row j) (hs : SeqO w' k g X' Y') (hk : Kept (fun i => i = g ∨ i = k) w w') :
    Ix w' lab K wv Kc mc b N V E { M with ws := M.ws.set j (X', t) } := by
  have ho : ∀ i, i < w.heap.size → lab i ≠ .box j → lab i ≠ .row j → w'.heap[i]? = w.heap[i]? := fun i hi h1 h2 => hk.block i hi (by rintro (rfl | rfl) <;> contradiction)
  refine ⟨(ho K h.ltK (by rw [h.lK]; simp) (by rw [h.lK]; simp)).trans h.box, h.row.kept fun g hg => ho g (h.row.lt g hg).2 (by rw [h.lw g hg]; simp) (by rw [h.lw g hg]; simp), by rw [h.len]; simp, fun i X2 t2 hi => ?_, h.cts.kept fun k hlt hm => ho k hlt ?_ ?_, h.vmap.kept (ho b h.vmap.lt (by rw [h.lb]; simp) (by rw [h.lb]; simp)), fun q => (h.rows q).kept fun g hg => ho g ((h.rows q).lt g hg).2 (by rw [h.lp q g hg]; simp) (by rw [h.lp q g hg]; simp), h.lK, h.lw, h.lc, h.lm, h.lb, h.lp, fun i hi => h.fresh i (Nat.le_trans hk.size hi)⟩
  · simp only at hi
    rw [List.getElem?_set] at hi
    by_cases e : j = i
    · subst e
      rw [if_pos rfl] at hi
      split at hi
      · simp only [Option.some.injEq, Prod.mk.injEq] at hi
        obtain ⟨rfl, rfl⟩ := hi
        exact ⟨k, g, Y', he, hs, hlk, hlg⟩
      · cases hi
    · rw [if_neg e] at hi
      obtain ⟨k2, g2, Y2, e2, hs2, l1, l2⟩ := h.seqs i X2 t2 hi
      exact ⟨k2, g2, Y2, e2, hs2.kept (ho k2 hs2.ltK (by rw [l1]; simpa using fun e3 : i = j => e e3.symm) (by rw [l1]; simp)) (ho g2 hs2.ltg (by rw [l2]; simp) (by rw [l2]; simpa using fun e3 : i = j => e e3.symm)), l1, l2⟩
  · rcases hm with rfl | e
    · rw [h.lc]; simp
    · rw [h.lm k e.symm]; simp
  · rcases hm with rfl | e
    · rw [h.lc]; simp
    · rw [h.lm k e.symm]; simp
set_option maxRecDepth 100000 in
/-- The counts are others. -/
theorem Ix.ctsAt (h : Ix w lab K wv Kc mc b N V E M) {L' : Cn} (hr : CRet Kc mc L' w w') : ∃ lab', IxM w' lab' K N V { M with cnt := L' } ∧ XRet lab w lab' w' ∧ w'.heap[K]? = w.heap[K]? ∧ ∀ i, w.heap.size ≤ i → lab' i ≠ .no → ∃ es clock, w'.heap[i]? = some (.map es clock) := by
  obtain ⟨m', h1, h2, h3⟩ := hr
  obtain ⟨lab', hl⟩ : ∃ lab' : Nat → Lab, lab' = fun i => if i < w.heap.size then lab i else if some i = m' then .cmap else .no := ⟨_, rfl⟩
  have hold : ∀ i, i < w.heap.size → lab' i = lab i := fun i hi => by rw [hl]; simp [hi]
  have ho : ∀ i, i < w.heap.size → lab i ≠ .cts → lab i ≠ .cmap → w'.heap[i]? = w.heap[i]? := fun i hi k1 k2 => h2.block i hi (by
    rintro (rfl | e)
    · exact k1 h.lc
    · exact k2 (h.lm i e.symm))
  have hK := h.ltK
  have hc := h.cts.lt
  have hb := h.vmap.lt
  refine ⟨lab', ⟨wv, Kc, m', b, E, (ho K hK (by rw [h.lK]; simp) (by rw [h.lK]; simp)).trans h.box, h.row.kept fun g hg => ho g (h.row.lt g hg).2 (by rw [h.lw g hg]; simp) (by rw [h.lw g hg]; simp), h.len, fun j X t hj => ?_, h1, h.vmap.kept (ho b hb (by rw [h.lb]; simp) (by rw [h.lb]; simp)), fun q => (h.rows q).kept fun g hg => ho g ((h.rows q).lt g hg).2 (by rw [h.lp q g hg]; simp) (by rw [h.lp q g hg]; simp), by rw [hold K hK]; exact h.lK, fun g hg => by rw [hold g (h.row.lt g hg).2]; exact h.lw g hg, by rw [hold Kc hc]; exact h.lc, fun g hg => ?_, by rw [hold b hb]; exact h.lb, fun q g hg => by rw [hold g ((h.rows q).lt g hg).2]; exact h.lp q g hg, fun i hi => by
    have hs := h2.size
    rw [hl]; simp only [show ¬ i < w.heap.size by omega, if_false]
    rw [if_neg]; intro e; have := h1.mlt (.inr e); omega⟩, ⟨?_, ?_⟩, ho K hK (by rw [h.lK]; simp) (by rw [h.lK]; simp), ?_⟩
  · obtain ⟨k, g, Y, e, hs, l1, l2⟩ := h.seqs j X t hj
    exact ⟨k, g, Y, e, hs.kept (ho k hs.ltK (by rw [l1]; simp) (by rw [l1]; simp)) (ho g hs.ltg (by rw [l2]; simp) (by rw [l2]; simp)), by rw [hold k hs.ltK]; exact l1, by rw [hold g hs.ltg]; exact l2⟩
  · rcases h3 with rfl | ⟨g2, rfl, hg2⟩
    · rw [hold g (h.cts.mlt (.inr hg.symm))]; exact h.lm g hg
    · cases hg
      rw [hl]; simp [show ¬ g < w.heap.size by omega]
  · exact ⟨h2.os, h2.tape, h2.output, h2.size, fun i hi hm => ho i hi (fun e => hm (by unfold Mine; rw [e]; simp)) (fun e => hm (by unfold Mine; rw [e]; simp))⟩
  · intro i hi hm
    unfold Mine at hm ⊢
    rwa [hold i hi] at hm
  · intro i hi hm
    rw [hl] at hm
    simp only [show ¬ i < w.heap.size by omega, if_false] at hm
    by_cases e : some i = m'
    · have h5 := h1.2
      rw [← e] at h5
      exact CMap.block h5
    · rw [if_neg e] at hm; exact absurd rfl hm
set_option maxRecDepth 100000 in
/-- A pair's places are others: the map is turned, and the pair's row, or a new one. -/
theorem Ix.plAt (h : Ix w lab K wv Kc mc b N V E M) {N' : Nat} {p : Int × Int} {r : Value} {L' : List Int} (hv : VMap w' b N' (upd V p r)) (hr : ownE intE w' 0 r L') (hk : Kept (fun i => i = b ∨ some i = (V p).ownBlock) w w') (hn : ∀ g, r.ownBlock = some g → some g = (V p).ownBlock ∨ w.heap.size ≤ g) :
    ∃ lab', IxM w' lab' K N' (upd V p r) { M with pl := upd M.pl p L' } ∧ XRet lab w lab' w' ∧ w'.heap[K]? = w.heap[K]? := by
  obtain ⟨lab', hl⟩ : ∃ lab' : Nat → Lab, lab' = fun i => if i < w.heap.size then lab i else if some i = r.ownBlock then .pl p else .no := ⟨_, rfl⟩
  have hold : ∀ i, i < w.heap.size → lab' i = lab i := fun i hi => by rw [hl]; simp [hi]
  have ho : ∀ i, i < w.heap.size → lab i ≠ .pmap → lab i ≠ .pl p → w'.heap[i]? = w.heap[i]? := fun i hi k1 k2 => hk.block i hi (by
    rintro (rfl | e)
    · exact k1 h.lb
    · exact k2 (h.lp p i e.symm))
  have hK := h.ltK
  have hc := h.cts.lt
  have hb := h.vmap.lt
  refine ⟨lab', ⟨wv, Kc, mc, b, E, (ho K hK (by rw [h.lK]; simp) (by rw [h.lK]; simp)).trans h.box, h.row.kept fun g hg => ho g (h.row.lt g hg).2 (by rw [h.lw g hg]; simp) (by rw [h.lw g hg]; simp), h.len, fun j X t hj => ?_, h.cts.kept fun k hlt hm => ho k hlt ?_ ?_, hv, fun q => ?_, by rw [hold K hK]; exact h.lK, fun g hg => by rw [hold g (h.row.lt g hg).2]; exact h.lw g hg, by rw [hold Kc hc]; exact h.lc, fun g hg => by rw [hold g (h.cts.mlt (.inr hg.symm))]; exact h.lm g hg, by rw [hold b hb]; exact h.lb, fun q g hg => ?_, fun i hi => by
    have hs := hk.size
    rw [hl]; simp only [show ¬ i < w.heap.size by omega, if_false]
    rw [if_neg]; intro e; have := (hr.lt i e.symm).2; omega⟩, ⟨?_, ?_⟩, ho K hK (by rw [h.lK]; simp) (by rw [h.lK]; simp)⟩
  · obtain ⟨k, g, Y, e, hs, l1, l2⟩ := h.seqs j X t hj
    exact ⟨k, g, Y, e, hs.kept (ho k hs.ltK (by rw [l1]; simp) (by rw [l1]; simp)) (ho g hs.ltg (by rw [l2]; simp) (by rw [l2]; simp)), by rw [hold k hs.ltK]; exact l1, by rw [hold g hs.ltg]; exact l2⟩
  · rcases hm with rfl | e
    · rw [h.lc]; simp
    · rw [h.lm k e.symm]; simp
  · rcases hm with rfl | e
    · rw [h.lc]; simp
    · rw [h.lm k e.symm]; simp
  · by_cases e : q = p
    · subst e; show ownE intE w' 0 (upd V q r q) (upd M.pl q L' q); rw [upd_same, upd_same]; exact hr
    · show ownE intE w' 0 (upd V p r q) (upd M.pl p L' q)
      rw [upd_other _ _ _ e, upd_other _ _ _ e]
      exact (h.rows q).kept fun g hg => ho g ((h.rows q).lt g hg).2 (by rw [h.lp q g hg]; simp) (by rw [h.lp q g hg]; simpa using e)
  · by_cases e : q = p
    · subst e
      rw [upd_same] at hg
      rcases hn g hg with e2 | e2
      · rw [hold g ((h.rows q).lt g e2.symm).2]; exact h.lp q g e2.symm
      · rw [hl]; simp [show ¬ g < w.heap.size by omega, hg]
    · rw [upd_other _ _ _ e] at hg
      rw [hold g ((h.rows q).lt g hg).2]; exact h.lp q g hg
  · exact ⟨hk.os, hk.tape, hk.output, hk.size, fun i hi hm => ho i hi (fun e => hm (by unfold Mine; rw [e]; simp)) (fun e => hm (by unfold Mine; rw [e]; simp))⟩
  · intro i hi hm
    unfold Mine at hm ⊢
    rwa [hold i hi] at hm
set_option maxRecDepth 100000 in
/-- The two numbers are others. -/
theorem Ix.cellAt (h : Ix w lab K wv Kc mc b N V E M) {p t : Int} (hb : w'.heap[K]? = some (.cells #[wv, .pointer (some ⟨Kc, 0, none⟩), .map (some b), .int .i64 p, .int .i64 t] 68 (0, 0))) (hk : Kept (fun i => i = K) w w') : Ix w' lab K wv Kc mc b N V E { M with pos := p, tou := t } := by
  have ho : ∀ i, i < w.heap.size → lab i ≠ .idx → w'.heap[i]? = w.heap[i]? := fun i hi h1 => hk.block i hi (by rintro rfl; exact h1 h.lK)
  refine ⟨hb, h.row.kept fun g hg => ho g (h.row.lt g hg).2 (by rw [h.lw g hg]; simp), h.len, fun j X t hj => ?_, h.cts.kept fun k hlt hm => ho k hlt ?_, h.vmap.kept (ho b h.vmap.lt (by rw [h.lb]; simp)), fun q => (h.rows q).kept fun g hg => ho g ((h.rows q).lt g hg).2 (by rw [h.lp q g hg]; simp), h.lK, h.lw, h.lc, h.lm, h.lb, h.lp, fun i hi => h.fresh i (Nat.le_trans hk.size hi)⟩
  · obtain ⟨k, g, Y, e, hs, l1, l2⟩ := h.seqs j X t hj
    exact ⟨k, g, Y, e, hs.kept (ho k hs.ltK (by rw [l1]; simp)) (ho g hs.ltg (by rw [l2]; simp)), l1, l2⟩
  · rcases hm with rfl | e
    · rw [h.lc]; simp
    · rw [h.lm k e.symm]; simp
set_option maxRecDepth 100000 in
/-- One word more: its sequence is new, the row of words is turned, or new, and lies in the index again. -/
theorem Ix.wordAt (h : Ix w lab K wv Kc mc b N V E M) {wv' : Value} {k g : Nat} {X Y : List Int} {t : Int} (hs : SeqO w' k g X Y) (hk1 : w.heap.size ≤ k) (hk2 : w.heap.size ≤ g) (hne : k ≠ g) (hr : ownE wordE w' 0 wv' (E ++ [(k, t)])) (hn : ∀ i, wv'.ownBlock = some i → some i = wv.ownBlock ∨ (w.heap.size ≤ i ∧ i ≠ k ∧ i ≠ g))
    (hb : w'.heap[K]? = some (.cells #[wv', .pointer (some ⟨Kc, 0, none⟩), .map (some b), .int .i64 M.pos, .int .i64 M.tou] 68 (0, 0))) (hk : Kept (fun i => i = K ∨ some i = wv.ownBlock) w w') :
    ∃ lab', IxM w' lab' K N V { M with ws := M.ws ++ [(X, t)] } ∧ XRet lab w lab' w' := by
  obtain ⟨lab', hl⟩ : ∃ lab' : Nat → Lab, lab' = fun i => if i < w.heap.size then lab i else if i = k then .box M.ws.length else if i = g then .row M.ws.length else if some i = wv'.ownBlock then .words else .no := ⟨_, rfl⟩
  have hold : ∀ i, i < w.heap.size → lab' i = lab i := fun i hi => by rw [hl]; simp [hi]
  have ho : ∀ i, i < w.heap.size → lab i ≠ .idx → lab i ≠ .words → w'.heap[i]? = w.heap[i]? := fun i hi h1 h2 => hk.block i hi (by
    rintro (rfl | e)
    · exact h1 h.lK
    · exact h2 (h.lw i e.symm))
  have hK := h.ltK
  have hc := h.cts.lt
  have hvb := h.vmap.lt
  refine ⟨lab', ⟨wv', Kc, mc, b, E ++ [(k, t)], hb, hr, by simp [h.len], fun j X2 t2 hj => ?_, h.cts.kept fun k hlt hm => ho k hlt ?_ ?_, h.vmap.kept (ho b hvb (by rw [h.lb]; simp) (by rw [h.lb]; simp)), fun q => (h.rows q).kept fun g hg => ho g ((h.rows q).lt g hg).2 (by rw [h.lp q g hg]; simp) (by rw [h.lp q g hg]; simp), by rw [hold K hK]; exact h.lK, fun i hi => ?_, by rw [hold Kc hc]; exact h.lc, fun g hg => by rw [hold g (h.cts.mlt (.inr hg.symm))]; exact h.lm g hg, by rw [hold b hvb]; exact h.lb, fun q g hg => by rw [hold g ((h.rows q).lt g hg).2]; exact h.lp q g hg, fun i hi => by
    have hz := hk.size
    have h3 := hs.ltK; have h4 := hs.ltg
    rw [hl]; simp only [show ¬ i < w.heap.size by omega, show ¬ i = k by omega, show ¬ i = g by omega, if_false]
    rw [if_neg]; intro e; have := (hr.lt i e.symm).2; omega⟩, ?_, ?_⟩
  · simp only at hj
    rw [List.getElem?_append] at hj
    split at hj
    · rename_i hlt
      obtain ⟨k2, g2, Y2, e2, hs2, l1, l2⟩ := h.seqs j X2 t2 hj
      exact ⟨k2, g2, Y2, by rw [List.getElem?_append_left (by rw [h.len]; exact hlt)]; exact e2, hs2.kept (ho k2 hs2.ltK (by rw [l1]; simp) (by rw [l1]; simp)) (ho g2 hs2.ltg (by rw [l2]; simp) (by rw [l2]; simp)), by rw [hold k2 hs2.ltK]; exact l1, by rw [hold g2 hs2.ltg]; exact l2⟩
    · rename_i hlt
      have hz : j - M.ws.length = 0 := by
        have := (List.getElem?_eq_some_iff.1 hj).1
        simp at this; omega
      rw [hz] at hj
      simp only [List.getElem?_cons_zero, Option.some.injEq, Prod.mk.injEq] at hj
      obtain ⟨rfl, rfl⟩ := hj
      have hjl : j = M.ws.length := by omega
      refine ⟨k, g, Y, by rw [hjl, ← h.len]; simp, hs, by rw [hl]; simp [show ¬ k < w.heap.size by omega, hjl], by rw [hl]; simp [show ¬ g < w.heap.size by omega, hjl, Ne.symm hne]⟩
  · rcases hm with rfl | e
    · rw [h.lc]; simp
    · rw [h.lm k e.symm]; simp
  · rcases hm with rfl | e
    · rw [h.lc]; simp
    · rw [h.lm k e.symm]; simp
  · rcases hn i hi with e | ⟨e1, e2, e3⟩
    · rw [hold i (h.row.lt i e.symm).2]; exact h.lw i e.symm
    · rw [hl]; simp [show ¬ i < w.heap.size by omega, e2, e3, hi]
  · exact ⟨hk.os, hk.tape, hk.output, hk.size, fun i hi hm => ho i hi (fun e => hm (by unfold Mine; rw [e]; simp)) (fun e => hm (by unfold Mine; rw [e]; simp))⟩
  · intro i hi hm
    unfold Mine at hm ⊢
    rwa [hold i hi] at hm
end Go.Proofs.YtejcemmhhpbchaaGreat
/- A place kept by a pair, behind those that are there. -/
namespace Go.Proofs.YtejcemmhhpbchaaGreat
open Go.RowKit Go.Maps

set_option maxRecDepth 100000 in
theorem grown_cell {w w' : World} {row : Option Nat} (h : w.grownBy w' row) (a : Addr) (ha : a.block < w.heap.size) (hne : some a.block ≠ row) : w'.cell? a = w.cell? a := World.cell?_of_block (h.block a.block ha hne)
set_option maxRecDepth 100000 in
set_option maxHeartbeats 4000000 in
theorem xput_any (K N : Nat) (lab : Nat → Lab) (V : Int × Int → Value) (M : Mdl) (p q z : Int) (w : World) (h : IxM w lab K N V M) (hp : FitsPr (p, q)) (hz : ∀ y ∈ M.pl (p, q), y < z) (hl : (M.pl (p, q)).length ≤ 100000) (hN : N ≤ 1000000000000) :
    Calls Tryz.prog 52 #[.pointer (some ⟨K, 0, none⟩), .agg #[.int .i64 p, .int .i64 q], .int .i64 z] w fun e w' => e = .returned (.tuple #[]) ∧ ∃ lab' r, IxM w' lab' K (N + 1) (upd V (p, q) r) { M with pl := upd M.pl (p, q) (M.pl (p, q) ++ [z]) } ∧ XRet lab w lab' w' ∧ w'.heap[K]? = w.heap[K]? := by
  obtain ⟨wv, Kc, mc, b, E, h⟩ := h
  obtain ⟨w1, hw1⟩ : ∃ w1, w1 = (w.alloc (.cells #[.int .i64 p, .int .i64 q] 37)).drew := ⟨_, rfl⟩
  obtain ⟨bx, hbx⟩ : ∃ bx, w.heap.size = bx := ⟨_, rfl⟩
  have B1 : Below w.heap.size w w1 := by rw [hw1]; exact ((Below.refl _ w).alloc (Nat.le_refl _) _).drew
  have h1 := h.below B1
  have hs1 : w1.heap.size = w.heap.size + 1 := by rw [hw1]; show (w.alloc _).heap.size = _; simp
  have hrow := h1.rows (p, q)
  have hlk := vlook h1.vmap hp
  obtain ⟨u, hu⟩ : ∃ u, V (p, q) = u := ⟨_, rfl⟩
  obtain ⟨L, hL⟩ : ∃ L, M.pl (p, q) = L := ⟨_, rfl⟩
  rw [hu] at hlk
  rw [hu, hL] at hrow
  rw [hL] at hz hl ⊢
  obtain ⟨w2, hw2⟩ : ∃ w2, w2 = (w1.alloc (.cells #[.int .i64 z] 3)).drew := ⟨_, rfl⟩
  have B2 : Below w1.heap.size w1 w2 := by rw [hw2]; exact ((Below.refl _ w1).alloc (Nat.le_refl _) _).drew
  have hs2 : w2.heap.size = w1.heap.size + 1 := by rw [hw2]; show (w1.alloc _).heap.size = _; simp
  have hone : eltsAt intE w2 (.slice (some ⟨w1.heap.size, 0, none⟩) 1 1) [z] := by rw [hw2]; exact (one_elt intE w1 z).drew 1
  have hK1 := h1.ltK
  have hublk : ∀ g, u.ownBlock = some g → g < w1.heap.size ∧ g ≠ K ∧ g ≠ bx := fun g hg => by
    have l1 := h.lp (p, q) g (by rw [hu]; exact hg)
    refine ⟨(hrow.lt g hg).2, ?_, ?_⟩
    · rintro rfl; rw [h.lK] at l1; cases l1
    · have := ((h.rows (p, q)).lt g (by rw [hu]; exact hg)).2
      omega
  have hbK : b ≠ K := by rintro rfl; have := h.lb; rw [h.lK] at this; cases this
  have hbb : b < bx := by have := h.vmap.lt; omega
  have HC : Hid (∀ W', Below w1.heap.size w1 W' → W'.cell? ⟨bx, 0, none⟩ = some (.int .i64 p) ∧ W'.cell? ⟨bx, 1, none⟩ = some (.int .i64 q) ∧ W'.cell? ⟨K, 2, none⟩ = some (.map (some b))) := Lib.hid (fun W' hW => by
    refine ⟨(hW.cell (show bx < w1.heap.size by omega)).trans ?_, (hW.cell (show bx < w1.heap.size by omega)).trans ?_, (hW.cell hK1).trans h1.cells.2.2.1⟩
    · rw [hw1, ← hbx]; show (w.alloc _).cell? _ = _; simp
    · rw [hw1, ← hbx]; show (w.alloc _).cell? _ = _; simp)
  have hs1' : w1.heap.size = bx + 1 := by omega
  have HI : Hid (Calls Tryz.prog 63 #[u, .int .i64 (L.length : Int), .slice (some ⟨bx + 1, 0, none⟩) 1 1] w2 fun e w' => ∃ r, e = .returned r ∧ ownE intE w' 0 r (L ++ [z]) ∧ w2.grownBy w' u.ownBlock ∧ (r.ownBlock = u.ownBlock ∨ r.ownBlock = some w2.heap.size)) := Lib.hid (by
    rw [← hs1']
    exact binsert_any 0 u (.slice (some ⟨w1.heap.size, 0, none⟩) 1 1) L z w2 (hrow.below B2) hone (someNone _ _ _) (Nat.zero_le _) (by omega))
  have cS := bsearch_any u L z w1 hrow.reads hz (by omega)
  have HS : Hid (∀ r w3, ownE intE w3 0 r (L ++ [z]) → w2.grownBy w3 u.ownBlock → (r.ownBlock = u.ownBlock ∨ r.ownBlock = some w2.heap.size) →
      (w3.cell? ⟨bx, 0, none⟩ = some (.int .i64 p) ∧ w3.cell? ⟨bx, 1, none⟩ = some (.int .i64 q) ∧ w3.cell? ⟨K, 2, none⟩ = some (.map (some b))) ∧ ∃ w4, (Instr.mapUpdate 65 (.map (some b)) (pv (p, q)) r).run Tryz.prog w3 = .ok () w4 ∧
      (w4.cell? ⟨bx, 0, none⟩ = some (.int .i64 p) ∧ w4.cell? ⟨bx, 1, none⟩ = some (.int .i64 q) ∧ w4.cell? ⟨K, 2, none⟩ = some (.map (some b))) ∧ ∃ lab' r, IxM w4 lab' K (N + 1) (upd V (p, q) r) { M with pl := upd M.pl (p, q) (L ++ [z]) } ∧ XRet lab w lab' w4 ∧ w4.heap[K]? = w.heap[K]?) := Lib.hid (fun r w3 ho hg hr => by
    obtain ⟨z0, z1, z2⟩ := HC.out w2 B2
    have hbu : some b ≠ u.ownBlock := fun e => by
      have l1 := h.lp (p, q) b (by rw [hu]; exact e.symm)
      rw [h.lb] at l1; cases l1
    have y : w3.cell? ⟨bx, 0, none⟩ = some (.int .i64 p) ∧ w3.cell? ⟨bx, 1, none⟩ = some (.int .i64 q) ∧ w3.cell? ⟨K, 2, none⟩ = some (.map (some b)) :=
      ⟨(grown_cell hg _ (show bx < w2.heap.size by omega) (fun e => (hublk _ e.symm).2.2 rfl)).trans z0, (grown_cell hg _ (show bx < w2.heap.size by omega) (fun e => (hublk _ e.symm).2.2 rfl)).trans z1, (grown_cell hg _ (show K < w2.heap.size by omega) (fun e => (hublk _ e.symm).2.1 rfl)).trans z2⟩
    have hv3 : VMap w3 b N V := (h1.vmap.kept (B2.block b (by omega))).kept (hg.block b (by omega) hbu)
    obtain ⟨w4, hrun, hv4, ht⟩ := vput hv3 hp hN r
    have hrb : ∀ g, r.ownBlock = some g → g ≠ b := fun g hg2 e => by
      subst e
      rcases hr with e | e
      · exact hbu (by rw [← e, hg2])
      · rw [hg2] at e; cases e; omega
    have ho4 : ownE intE w4 0 r (L ++ [z]) := ho.kept fun g hg2 => turned_heap ht g (hrb g hg2)
    have hk : Kept (fun i => i = b ∨ some i = (V (p, q)).ownBlock) w w4 := by
      have k1 : Kept (fun i => i = b ∨ some i = (V (p, q)).ownBlock) w w2 := Kept.of_below (B1.trans (B2.mono (by omega))) (Nat.le_refl _)
      refine (k1.grown hg fun k e _ => .inr ?_).grown ht.grown fun k e _ => .inl ?_
      · rw [hu, e]
      · cases e; rfl
    obtain ⟨lab', h5, h6, h7⟩ := h.plAt (L' := L ++ [z]) hv4 ho4 hk (fun g hg2 => by
      rw [hu]
      rcases hr with e | e
      · exact .inl (by rw [← e, hg2])
      · rw [hg2] at e; cases e; exact .inr (by omega))
    exact ⟨y, w4, hrun, ⟨(turned_cell ht _ (show bx ≠ b by omega)).trans y.1, (turned_cell ht _ (show bx ≠ b by omega)).trans y.2.1, (turned_cell ht _ (fun e : K = b => hbK e.symm)).trans y.2.2⟩, lab', r, h5, h6, h7⟩)
  obtain ⟨ca, cb, cc⟩ := HC.out w1 (Below.refl _ _)
  have HZ1 := Lib.hid (HC.out w1 (Below.refl _ _))
  have HZ2 := Lib.hid (HC.out w1.drew (Below.refl _ _).drew)
  have HZ3 := Lib.hid (HC.out w2 B2)
  have hw1' := hw1.symm
  have hw2' := hw2.symm
  unfold pv at hlk
  simp only at hlk
  clear h h1 hrow B1 B2 hone hw1 hw2 hublk hu hL hz hl hN hbK hbb hs1 hs2 hK1 HC
  go_enter Tryz.func52, Tryz.ntmps52
  go_wp2_with fail
  go_region
  all_goals (go_wp2_with (go_at_call 62; refine cS.mono ?_; rintro e w' ⟨rfl, rfl⟩))
  all_goals (
    go_region_held3 (fun w' => w'.cell? ⟨bx, 0, none⟩ = some (.int .i64 p) ∧ w'.cell? ⟨bx, 1, none⟩ = some (.int .i64 q) ∧ w'.cell? ⟨K, 2, none⟩ = some (.map (some b))) (first | exact HZ1.out | exact HZ2.out | exact HZ3.out | exact HZ4.out | exact HZ5.out) (first
      | (go_at_call 63
         with_reducible refine HI.out.mono ?_
         rintro e w3 ⟨r, rfl, ho3, hg3, hr3⟩
         obtain ⟨z4, w4, hput, z5, hfin⟩ := HS.out r w3 ho3 hg3 hr3
         have HZ4 := Lib.hid z4
         have HZ5 := Lib.hid z5
         have HF := Lib.hid hfin
         clear ho3 hg3 hr3 z4 z5 hfin
         unfold pv at hput
         simp only at hput)))
  all_goals (go_wp2_with fail)
  all_goals go_end0
  all_goals exact ⟨rfl, HF.out⟩
end Go.Proofs.YtejcemmhhpbchaaGreat
/- The places of a word's changes kept, and its changes as they are in all: plain lists, and memory. -/
namespace Go.Proofs.YtejcemmhhpbchaaGreat
open Go.RowKit Go.Maps

/-- Behind the changes X of the word at place z: who has which places. -/
def noteF (z : Int) (f : Int × Int → List Int) (X : List Chg) : Int × Int → List Int := X.foldl (fun f x => if 0 < x.2 then upd f x.1 (f x.1 ++ [z]) else f) f
def scaleC (t : Int) (X : List Chg) : List Chg := X.map fun x => (x.1, x.2 * t)
set_option maxRecDepth 100000 in
theorem scale_len (t : Int) (X : List Chg) : (scaleC t X).length = X.length := by simp [scaleC]
set_option maxRecDepth 100000 in
theorem noteF_snoc (z : Int) (f : Int × Int → List Int) (X : List Chg) (x : Chg) : noteF z f (X ++ [x]) = if 0 < x.2 then upd (noteF z f X) x.1 (noteF z f X x.1 ++ [z]) else noteF z f X := by
  unfold noteF; rw [List.foldl_append]; rfl
set_option maxRecDepth 100000 in
theorem noteF_out (z : Int) {q : Int × Int} : ∀ (X : List Chg) (f : Int × Int → List Int), (∀ x ∈ X, x.1 ≠ q) → noteF z f X q = f q
  | [], _, _ => rfl
  | x :: r, f, h => by
    have ih := noteF_out z r (if 0 < x.2 then upd f x.1 (f x.1 ++ [z]) else f) (fun y hy => h y (List.mem_cons_of_mem _ hy))
    have e : noteF z f (x :: r) = noteF z (if 0 < x.2 then upd f x.1 (f x.1 ++ [z]) else f) r := rfl
    rw [e, ih]
    split
    · exact upd_other _ _ _ fun k => h x (List.mem_cons_self ..) k.symm
    · rfl
set_option maxRecDepth 100000 in
theorem noteF_take {z : Int} {X : List Chg} {k : Nat} (hk : k < X.length) (f : Int × Int → List Int) : noteF z f (X.take (k + 1)) = if 0 < X[k].2 then upd (noteF z f (X.take k)) X[k].1 (noteF z f (X.take k) X[k].1 ++ [z]) else noteF z f (X.take k) := by
  rw [List.take_succ_eq_append_getElem hk, noteF_snoc]
set_option maxRecDepth 100000 in
theorem noteF_fresh {z : Int} {X : List Chg} (hd : X.Pairwise fun x y => x.1 ≠ y.1) {k : Nat} (hk : k < X.length) (f : Int × Int → List Int) : noteF z f (X.take k) X[k].1 = f X[k].1 := by
  refine noteF_out z _ _ fun x hx e => ?_
  obtain ⟨i, hi, rfl⟩ := List.mem_iff_getElem.1 hx
  rw [List.length_take] at hi
  rw [List.getElem_take] at e
  exact List.pairwise_iff_getElem.1 hd i k (by omega) hk (by omega) e
def fillC (Z : List Chg) (k : Nat) : List Chg := Z.take k ++ List.replicate (Z.length - k) ((0, 0), 0)
set_option maxRecDepth 100000 in
theorem fillC_len {Z : List Chg} {k : Nat} (hk : k ≤ Z.length) : (fillC Z k).length = Z.length := by
  unfold fillC; rw [List.length_append, List.length_take, List.length_replicate]; omega
set_option maxRecDepth 100000 in
theorem fillC_all (Z : List Chg) : fillC Z Z.length = Z := by simp [fillC]
set_option maxRecDepth 100000 in
theorem fillC_at {Z : List Chg} {k : Nat} (hk : k < Z.length) (h : k < (fillC Z k).length) : (fillC Z k)[k] = ((0, 0), 0) := by
  have e : (fillC Z k)[k]? = some ((0, 0), 0) := by
    unfold fillC
    rw [List.getElem?_append_right (by rw [List.length_take]; omega), List.length_take, Nat.min_eq_left (by omega), Nat.sub_self, List.getElem?_replicate, if_pos (by omega)]
  exact (List.getElem?_eq_some_iff.1 e).2
set_option maxRecDepth 100000 in
theorem fillC_step {Z : List Chg} {k : Nat} (hk : k < Z.length) : (fillC Z k).set k Z[k] = fillC Z (k + 1) := by
  unfold fillC
  have hl : (Z.take k).length = k := by rw [List.length_take]; omega
  rw [List.set_append_right _ _ (by omega), hl, Nat.sub_self, List.take_succ_eq_append_getElem hk, show Z.length - k = Z.length - (k + 1) + 1 by omega, List.replicate_succ, List.set_cons_zero, List.append_assoc]
  rfl
set_option maxRecDepth 100000 in
theorem crow_store {w : World} {g k : Nat} {Z : List Chg} (h : rowE chgE w g (fillC Z k)) (hk : k < Z.length) (a b c : Int) (hz : Z[k] = ((a, b), c)) :
    rowE chgE (((w.setCell ⟨g, k * 3, none⟩ (.int .i64 a)).setCell ⟨g, k * 3 + 1, none⟩ (.int .i64 b)).setCell ⟨g, k * 3 + 2, none⟩ (.int .i64 c)) g (fillC Z (k + 1)) := by
  have hl : k < (fillC Z k).length := by rw [fillC_len (by omega)]; exact hk
  have h0 := h.store (i := 0) (u := .int .i64 a) ((a, 0), 0) hl (by decide) (by rw [fillC_at hk hl]; rfl)
  have h1 := h0.store (i := 1) (u := .int .i64 b) ((a, b), 0) (by rw [List.length_set]; exact hl) (by decide) (by rw [List.getElem_set_self]; rfl)
  have h2 := h1.store (i := 2) (u := .int .i64 c) ((a, b), c) (by rw [List.length_set, List.length_set]; exact hl) (by decide) (by rw [List.getElem_set_self]; rfl)
  rw [List.set_set, List.set_set, ← hz, fillC_step hk] at h2
  exact h2
set_option maxRecDepth 100000 in
theorem crow_cell {w : World} {g k : Nat} {L : List Chg} (h : rowE chgE w g L) (hk : k < L.length) : (∃ u, w.cell? ⟨g, k * 3, none⟩ = some u) ∧ (∃ u, w.cell? ⟨g, k * 3 + 1, none⟩ = some u) ∧ (∃ u, w.cell? ⟨g, k * 3 + 2, none⟩ = some u) ∧ ∀ j, w.frozen? ⟨g, j, none⟩ = false := by
  have h0 := h.cells (i := 0) hk (by decide)
  have h1 := h.cells (i := 1) hk (by decide)
  have h2 := h.cells (i := 2) hk (by decide)
  obtain ⟨cs, hg, _⟩ := h
  exact ⟨⟨_, h0.1⟩, ⟨_, h1.1⟩, ⟨_, h2.1⟩, fun j => Lib.frozen_of_heap hg j⟩
set_option maxRecDepth 100000 in
/-- A word of the index, in memory. -/
theorem IxM.word {w : World} {lab : Nat → Lab} {K N : Nat} {V : Int × Int → Value} {M : Mdl} (h : IxM w lab K N V M) {j : Nat} {X : List Int} {t : Int} (hj : M.ws[j]? = some (X, t)) :
    ∃ gw c k g Y, w.cell? ⟨K, 0, none⟩ = some (.slice (some ⟨gw, 0, none⟩) M.ws.length c) ∧ j < M.ws.length ∧ w.cell? ⟨gw, j * 2, none⟩ = some (.pointer (some ⟨k, 0, none⟩)) ∧ w.cell? ⟨gw, j * 2 + 1, none⟩ = some (.int .i64 t) ∧ SeqO w k g X Y ∧ lab k = .box j ∧ lab g = .row j ∧ gw < w.heap.size ∧ lab gw = .words := by
  obtain ⟨wv, Kc, mc, b, E, h⟩ := h
  obtain ⟨k, g, Y, he, hs, l1, l2⟩ := h.seqs j X t hj
  have hlt := (List.getElem?_eq_some_iff.1 hj).1
  obtain ⟨hjE, he2⟩ := List.getElem?_eq_some_iff.1 he
  obtain ⟨a, c, rfl, _⟩ := h.row.form
  obtain ⟨gw, rfl, _⟩ := ownE_some h.row (by rw [h.len]; omega)
  have hc := elts_at h.row.reads (Below.refl _ _) hjE
  rw [he2] at hc
  have h0 := hc 0 _ rfl
  have h1 := hc 1 _ rfl
  rw [add_zero_off] at h0 h1
  have := (h.row.lt gw rfl).2
  refine ⟨gw, c, k, g, Y, ?_, hlt, h0, h1, hs, l1, l2, this, h.lw gw rfl⟩
  rw [h.cells.1, h.len]
/-- The slices of pairs that X doesn't name more often are as they were. -/
def SameV (X : List Chg) (V V' : Int × Int → Value) : Prop := ∀ q, (∀ x ∈ X, 0 < x.2 → x.1 ≠ q) → V' q = V q
def NoteRel (w : World) (lab : Nat → Lab) (K N : Nat) (V : Int × Int → Value) (M : Mdl) (z t : Int) (X : List Chg) (g : Nat) (i : Value) (wr : World) : Prop :=
  ∃ (k : Nat) (lab' : Nat → Lab) (V' : Int × Int → Value), i = .int .i64 (k : Int) ∧ k ≤ X.length ∧ SameV X V V' ∧ IxM wr lab' K (N + k) V' { M with pl := noteF z M.pl (X.take k) } ∧ XRet lab w lab' wr ∧ rowE chgE wr g (fillC (scaleC t X) k) ∧ lab' g = .no ∧ w.heap.size ≤ g ∧ K < w.heap.size ∧ wr.heap[K]? = w.heap[K]?
set_option maxRecDepth 100000 in
/-- The round's end, from whatever world the row lies in. -/
theorem note_step {w W : World} {lab lab2 : Nat → Lab} {K N : Nat} {V V' : Int × Int → Value} {M : Mdl} {z t : Int} {X : List Chg} {g k : Nat} {f : Int × Int → List Int} {z0 z1 zy : Int} (hk : k < X.length) (hx : X[k] = ((z0, z1), zy)) (hV : SameV X V V') (h1 : IxM W lab2 K (N + (k + 1)) V' { M with pl := f }) (h2 : XRet lab w lab2 W) (h3 : rowE chgE W g (fillC (scaleC t X) k))
    (h4 : lab2 g = .no) (h5 : f = noteF z M.pl (X.take (k + 1))) (hg : w.heap.size ≤ g) (hK : K < w.heap.size) (hKb : W.heap[K]? = w.heap[K]?) :
    NoteRel w lab K N V M z t X g (.int .i64 ((k : Int) + 1)) (((W.setCell ⟨g, k * 3, none⟩ (.int .i64 z0)).setCell ⟨g, k * 3 + 1, none⟩ (.int .i64 z1)).setCell ⟨g, k * 3 + 2, none⟩ (.int .i64 (zy * t))) := by
  subst h5
  have k1 : Kept (fun i => i = g) W (W.setCell ⟨g, k * 3, none⟩ (.int .i64 z0)) := (Kept.refl _ W).setCell _ _ fun _ => rfl
  have k2 : Kept (fun i => i = g) W ((W.setCell ⟨g, k * 3, none⟩ (.int .i64 z0)).setCell ⟨g, k * 3 + 1, none⟩ (.int .i64 z1)) := k1.setCell _ _ fun _ => rfl
  have k3 : Kept (fun i => i = g) W (((W.setCell ⟨g, k * 3, none⟩ (.int .i64 z0)).setCell ⟨g, k * 3 + 1, none⟩ (.int .i64 z1)).setCell ⟨g, k * 3 + 2, none⟩ (.int .i64 (zy * t))) := k2.setCell _ _ fun _ => rfl
  have e : (scaleC t X)[k]'(by rw [scale_len]; exact hk) = ((z0, z1), zy * t) := by simp [scaleC, hx]
  exact ⟨k + 1, lab2, V', by simp, hk, hV, h1.other k3 (fun i _ e => by subst e; exact h4), ⟨h2.kept.trans k3 (fun i hi e => by subst e; omega), h2.sub⟩, crow_store h3 (by rw [scale_len]; exact hk) z0 z1 (zy * t) e, h4, hg, hK, (k3.block K (Nat.lt_of_lt_of_le hK h2.size) (by omega)).trans hKb⟩
set_option maxRecDepth 100000 in
theorem SameV.put {X : List Chg} {V V' : Int × Int → Value} (h : SameV X V V') {k : Nat} (hk : k < X.length) {p : Int × Int} {y : Int} (hx : X[k] = (p, y)) (hy : 0 < y) (r : Value) : SameV X V (upd V' p r) := fun q hq => by
  rw [upd_other]
  · exact h q hq
  · have := hq X[k] (List.getElem_mem hk) (by rw [hx]; exact hy)
    rw [hx] at this
    exact fun e => this e.symm
/-- What note tells, and leaves. -/
def NoteRet (lab : Nat → Lab) (K N : Nat) (V : Int × Int → Value) (M : Mdl) (z t : Int) (X : List Chg) (w : World) (e : Ending) (w' : World) : Prop :=
  ∃ r lab' V', e = .returned r ∧ ownE chgE w' w.heap.size r (scaleC t X) ∧ (∀ g, r.ownBlock = some g → lab' g = .no) ∧ SameV X V V' ∧ IxM w' lab' K (N + X.length) V' { M with pl := noteF z M.pl X } ∧ XRet lab w lab' w' ∧ w'.heap[K]? = w.heap[K]?
set_option maxRecDepth 100000 in
theorem box3_cells {w : World} {b : Nat} {x y z : Int} (h : w.heap[b]? = some (.cells #[.int .i64 x, .int .i64 y, .int .i64 z] 101 (0, 0))) : w.cell? ⟨b, 0, none⟩ = some (.int .i64 x) ∧ w.cell? ⟨b, 1, none⟩ = some (.int .i64 y) ∧ w.cell? ⟨b, 2, none⟩ = some (.int .i64 z) := by
  refine ⟨?_, ?_, ?_⟩ <;> (rw [cell_of_row w b _ _ 101 (0, 0) h]; rfl)
end Go.Proofs.YtejcemmhhpbchaaGreat
/- The places of a word's changes kept, walked. -/
namespace Go.Proofs.YtejcemmhhpbchaaGreat
open Go.RowKit Go.Maps

set_option maxRecDepth 100000 in
set_option maxHeartbeats 8000000 in
theorem xnote_any (K N : Nat) (lab : Nat → Lab) (V : Int × Int → Value) (M : Mdl) (j : Nat) (Y : List Int) (t : Int) (v : Value) (X : List Chg) (w : World) (h : IxM w lab K N V M) (hj : M.ws[j]? = some (Y, t)) (hv : ∀ W, Kept (Mine lab) w W → eltsAt chgE W v X) (hd : X.Pairwise fun x y => x.1 ≠ y.1)
    (hf : ∀ x ∈ X, FitsCh x) (hs : ∀ x ∈ X, FitsZ (x.2 * t)) (hz : ∀ x ∈ X, 0 < x.2 → ∀ y ∈ M.pl x.1, y < (j : Int)) (hl : ∀ q, (M.pl q).length ≤ 100000) (hX : X.length ≤ 10000) (hN : N ≤ 900000000000) :
    Calls Tryz.prog 33 #[.pointer (some ⟨K, 0, none⟩), .int .i64 (j : Int), v] w fun e w' => NoteRet lab K N V M j t X w e w' := by
  have HV := Lib.hid hv; have HF := Lib.hid hf; have HD := Lib.hid hd; have HSC := Lib.hid hs; have HZ := Lib.hid hz; have HLL := Lib.hid hl; have HJ := Lib.hid hj
  have H := Lib.hid h
  have hjl := (List.getElem?_eq_some_iff.1 hj).1
  obtain ⟨a, cap, rfl, _⟩ := hv w (Kept.refl _ w)
  obtain ⟨n, hn⟩ : ∃ n, X.length = n := ⟨_, rfl⟩
  have HNN := Lib.hid hn
  obtain ⟨NW, hNW⟩ : ∃ NW, M.ws.length = NW := ⟨_, rfl⟩
  have HNW := Lib.hid hNW
  rw [hNW] at hjl
  rw [hn] at HV hX ⊢
  obtain ⟨g, hg⟩ : ∃ g, w.heap.size = g := ⟨_, rfl⟩
  have HG := Lib.hid hg
  have hlg : lab g = .no := h.fresh (by omega)
  obtain ⟨i0, hi, hz0, hz1, hz2⟩ := info_parts chgE.info
  have hz2' : i0.bytes = 24 := hz2
  clear hf hd hs hz hl hj h hv hn hNW
  go_enter Tryz.func33, Tryz.ntmps33
  go_wp2_with (at_make; refine wpList_make_full _ rfl _ _ 74 rfl w.heap.size 101 i0 chgE.zero 3 Tryz.underlying74 hi hz0 hz1 .i64 .i64 _ _ n rfl rfl rfl rfl (by rw [hz2']; omega) (by unfold maxLen; omega) (Nat.le_refl _) ?_; intro w1 hown1 hgr1)
  rw [hg] at hown1
  have HR1 : Hid (rowE chgE w1 g (List.replicate n ((0, 0), 0))) := Lib.hid (rowE_made chgE ((0, 0), 0) rfl hown1)
  have HB1 : Hid (Below w.heap.size w w1) := Lib.hid ((Below.refl w.heap.size w).grown hgr1 (Nat.le_refl _) fun g hg => by cases hg)
  clear hown1 hgr1 hi hz0 hz1 hz2 hz2' hg
  go_loopw [15] (fun i wr => NoteRel w lab K N V M j t X g i wr) (fun i _ => n + 1 - (intOf i).toNat)
  case atStart => exact ⟨0, lab, V, rfl, Nat.zero_le _, fun _ _ => rfl, H.out.below HB1.out, XRet.below HB1.out, by unfold fillC; rw [scale_len, HNN.out]; exact HR1.out, hlg, by rw [HG.out]; exact Nat.le_refl _, H.out.ltK, HB1.out.block K H.out.ltK⟩
  case round =>
    obtain ⟨k, lab1, V1, rfl, hk, hV1, hM1, hx1, hr1, hg1, _, hKl, hKb⟩ := hrel
    have HKb : Hid (K < w.heap.size ∧ wr.heap[K]? = w.heap[K]?) := Lib.hid ⟨hKl, hKb⟩
    clear hKl hKb
    rw [HNN.out] at hk
    have HV1 := Lib.hid hV1; have HM1 := Lib.hid hM1; have HX1 := Lib.hid hx1; have HR := Lib.hid hr1; have HG1 := Lib.hid hg1
    clear hV1 hM1 hx1 hr1 hg1 HR1 HB1
    by_cases hgo : k < n
    · have hkI : (k : Int) < (n : Int) := by omega
      have hkL : k < X.length := by rw [HNN.out]; exact hgo
      have hEl := HV.out wr HX1.out.kept
      obtain ⟨ad, rfl⟩ : ∃ ad, a = some ad := by
        obtain ⟨_, _, e, hc⟩ := hEl
        obtain ⟨ad, e2, _⟩ := hc k hkL
        exact ⟨ad, (Value.slice.inj e).1.trans e2⟩
      obtain ⟨e0, e1, e2⟩ := chgs_at hEl (Below.refl _ wr) hkL
      have hfit := HF.out _ (List.getElem_mem hkL)
      have hsc := HSC.out _ (List.getElem_mem hkL)
      have hzz := HZ.out _ (List.getElem_mem hkL)
      have hfr := noteF_fresh (z := (j : Int)) HD.out hkL M.pl
      have hst := noteF_take (z := (j : Int)) hkL M.pl
      obtain ⟨z0, z1, zy, hz⟩ : ∃ z0 z1 zy, X[k] = ((z0, z1), zy) := ⟨_, _, _, rfl⟩
      rw [hz] at e0 e1 e2 hfit hsc hzz hfr hst
      simp only at e0 e1 e2 hsc hzz hfr hst
      obtain ⟨fp, fy⟩ := hfit
      simp only at fp fy
      have FP := Lib.hid fp
      have HFR := Lib.hid hfr; have HST := Lib.hid hst; have HZZ := Lib.hid hzz; have HX : Hid (∀ h : k < X.length, X[k] = ((z0, z1), zy)) := Lib.hid fun _ => hz; have HKL := Lib.hid hkL
      obtain ⟨bx, hbx⟩ : ∃ bx, wr.heap.size = bx := ⟨_, rfl⟩
      obtain ⟨w3, hw3⟩ : ∃ w3, w3 = wr.alloc (.cells #[.int .i64 z0, .int .i64 z1, .int .i64 zy] 101) := ⟨_, rfl⟩
      have hB3 : Below wr.heap.size wr w3 := by rw [hw3]; exact (Below.refl _ wr).alloc (Nat.le_refl _) _
      have hbox3 : w3.heap[bx]? = some (.cells #[.int .i64 z0, .int .i64 z1, .int .i64 zy] 101 (0, 0)) := by rw [hw3, ← hbx]; exact heap_alloc_new wr _
      have hbx3 : bx < w3.heap.size := (Array.getElem?_eq_some_iff.1 hbox3).1
      have hlbx : lab1 bx = .no := HM1.out.fresh (by omega)
      have HM3 := Lib.hid (HM1.out.below hB3)
      have HX3 := Lib.hid (HX1.out.trans (XRet.below hB3))
      have hgw := HR.out.lt
      have HR3 := Lib.hid (HR.out.kept (hB3.block g hgw))
      have HB3K : Hid (w3.heap[K]? = wr.heap[K]?) := Lib.hid (hB3.block K HM1.out.ltK)
      have HGB : Hid (g ≠ bx) := Lib.hid (by omega)
      have HB3 := Lib.hid hbox3
      obtain ⟨d0, d1, d2⟩ := box3_cells hbox3
      have hwr : IntKind.i64.wrap (zy * t) = zy * t := IntWalk.i64_in _ (by unfold FitsZ at hsc; omega)
      have hw3' := hw3.symm
      by_cases hpos : 0 < zy
      · have hzy := HZZ.out hpos
        have cP := xput_any K (N + k) lab1 V1 { M with pl := noteF j M.pl (X.take k) } z0 z1 j w3 HM3.out FP.out (by simp only; rw [HFR.out]; exact hzy) (by simp only; rw [HFR.out]; exact HLL.out _) (by omega)
        clear hEl hw3 fp fy hzz hfr hst hzy hB3
        go_wp2_with fail
        refine cP.mono ?_
        rintro e w4 ⟨rfl, lab4, rv, hM4, hx4, hKb4⟩
        obtain ⟨hl4, hb4⟩ := hx4.out hbx3 hlbx
        obtain ⟨hgl4, hgb4⟩ := hx4.out HR3.out.lt HG1.out
        have HR4 := Lib.hid (HR3.out.kept hgb4)
        have HX4 := Lib.hid (HX3.out.trans hx4)
        have HM4 := Lib.hid hM4
        have hbox4 := hb4.trans HB3.out
        obtain ⟨w5, hw5⟩ : ∃ w5, w5 = w4.drew := ⟨_, rfl⟩
        have hbox5 : w5.heap[bx]? = some (.cells #[.int .i64 z0, .int .i64 z1, .int .i64 zy] 101 (0, 0)) := (by rw [hw5]; exact hbox4)
        obtain ⟨y0, y1, y2⟩ := box3_cells hbox5
        have hM5 : IxM w5 lab4 K (N + (k + 1)) (upd V1 (z0, z1) rv) { M with pl := noteF j M.pl (X.take (k + 1)) } := by
          rw [hw5]
          have := hM4.drew
          rw [HST.out, if_pos hpos]
          exact this
        have hX5 : XRet lab w lab4 w5 := by rw [hw5]; exact HX4.out.drew
        have hR5 : rowE chgE w5 g (fillC (scaleC t X) k) := by rw [hw5]; exact HR4.out.kept rfl
        have HE := Lib.hid (note_step HKL.out (HX.out HKL.out) (HV1.out.put HKL.out (HX.out HKL.out) hpos rv) hM5 hX5 hR5 hgl4 rfl (by rw [HG.out]; exact Nat.le_refl _) HKb.out.1 (by rw [hw5]; exact (hKb4.trans (HB3K.out)).trans HKb.out.2))
        obtain ⟨gw, c, kk, gg, YY, v0, _, _, v2, _, _, _, _, _⟩ := hM5.word (j := j) (X := Y) (t := t) HJ.out
        simp only [HNW.out] at v0
        obtain ⟨⟨u0, s0⟩, ⟨u1, s1⟩, ⟨u2, s2⟩, s3⟩ := crow_cell hR5 (k := k) (by rw [fillC_len (by rw [scale_len, HNN.out]; omega), scale_len, HNN.out]; exact hgo)
        have s30 := s3 (k * 3); have s31 := s3 (k * 3 + 1); have s32 := s3 (k * 3 + 2)
        have hw5' := hw5.symm
        clear cP hKb4 hM4 hx4 hl4 hb4 hgl4 hgb4 hbox4 hbox5 hM5 hX5 hR5 s3 hw5 d0 d1 d2 hbox3 hkL hz
        go_wp2_with fail
        go_region
        all_goals (go_wp2_with fail)
        go_roundw
        case rel => exact HE.out
        case measure => simp [intOf] <;> omega
      · have hneg : ¬ 0 < zy := hpos
        obtain ⟨w5, hw5⟩ : ∃ w5, w5 = w3.drew := ⟨_, rfl⟩
        have hbox5 : w5.heap[bx]? = some (.cells #[.int .i64 z0, .int .i64 z1, .int .i64 zy] 101 (0, 0)) := (by rw [hw5]; exact hbox3)
        obtain ⟨y0, y1, y2⟩ := box3_cells hbox5
        have hM5 : IxM w5 lab1 K (N + (k + 1)) V1 { M with pl := noteF j M.pl (X.take (k + 1)) } := by
          rw [hw5]
          have := HM3.out.drew.mono (N' := N + (k + 1)) (by omega)
          rw [HST.out, if_neg hneg]
          exact this
        have hX5 : XRet lab w lab1 w5 := by rw [hw5]; exact HX3.out.drew
        have hR5 : rowE chgE w5 g (fillC (scaleC t X) k) := by rw [hw5]; exact HR3.out.kept rfl
        have HE := Lib.hid (note_step HKL.out (HX.out HKL.out) HV1.out hM5 hX5 hR5 HG1.out rfl (by rw [HG.out]; exact Nat.le_refl _) HKb.out.1 (by rw [hw5]; exact HB3K.out.trans HKb.out.2))
        obtain ⟨gw, c, kk, gg, YY, v0, _, _, v2, _, _, _, _, _⟩ := hM5.word (j := j) (X := Y) (t := t) HJ.out
        simp only [HNW.out] at v0
        obtain ⟨⟨u0, s0⟩, ⟨u1, s1⟩, ⟨u2, s2⟩, s3⟩ := crow_cell hR5 (k := k) (by rw [fillC_len (by rw [scale_len, HNN.out]; omega), scale_len, HNN.out]; exact hgo)
        have s30 := s3 (k * 3); have s31 := s3 (k * 3 + 1); have s32 := s3 (k * 3 + 2)
        have hw5' := hw5.symm
        clear hbox5 hM5 hX5 hR5 s3 hw5 hbox3 hkL hz hEl hw3 fp fy hzz hfr hst hB3
        go_wp2_with fail
        go_region
        all_goals (go_wp2_with fail)
        go_roundw
        case rel => exact HE.out
        case measure => simp [intOf] <;> omega
    · have hkI : ¬ (k : Int) < (n : Int) := by omega
      obtain rfl : k = n := by omega
      have hkX : X.take k = X := by rw [← HNN.out]; exact List.take_length
      have hM := HM1.out
      rw [hkX] at hM
      have HM := Lib.hid hM
      have HO : Hid (ownE chgE wr w.heap.size (.slice (some ⟨g, 0, none⟩) k k) (scaleC t X)) := Lib.hid (by
        have h1 := HR.out
        rw [← HNN.out, ← scale_len t X, fillC_all] at h1
        have h2 := h1.own (b := w.heap.size) (by rw [HG.out]; exact Nat.le_refl _) (by rw [scale_len, HNN.out]; unfold maxLen; omega)
        rw [scale_len, HNN.out] at h2
        exact h2)
      clear hM hkX
      go_wp2_with fail
      go_ret
      rw [← HNN.out] at HM
      exact ⟨_, lab1, V1, rfl, HO.out, fun g2 hg2 => by cases hg2; exact HG1.out, HV1.out, HM.out, HX1.out, HKb.out.2⟩
end Go.Proofs.YtejcemmhhpbchaaGreat
