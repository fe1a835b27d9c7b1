/- Texts in one: XqP, XqFor, XqSt. -/
import Derived.Test.YtbnekkcjkdghcaaLzP
import Derived.Test.YtbnekkcjkdghcaaCnAdd
import Derived.Test.YtbnekkcjkdghcaaRPair
/- The document's queue in memory. -/
namespace Go.Proofs.Ytbnekkcjkdghcaa
open Go.RowKit Go.Maps Go.Shelf
open Go.Sort (grow grow_empty grow_grow alloc_eq_grow heap_grow_old)

def mineX (X : Nat) (pv nv kv ku : Value) (k : Nat) : Prop := k = X ∨ some k = pv.ownBlock ∨ some k = nv.ownBlock ∨ some k = kv.ownBlock ∨ some k = ku.ownBlock
abbrev xqCells (T : Nat) (pv nv kv ku : Value) (pu po pk re : Int) : Array Value := #[.pointer (some ⟨T, 0, none⟩), pv, nv, kv, ku, .int .i64 0, .int .i64 0, .int .i64 pu, .int .i64 po, .int .i64 pk, .int .i64 re]
/-- Block X is the document's queue over its table in T: its pairs P lie in pv, their counts C in nv; it knows M. -/
structure XqIn (w : World) (X T : Nat) (tv tp pv nv kv ku : Value) (J : List Joint) (P : List (Int × Int)) (C : List Int) (M : Cn) (pu po pk re : Int) : Prop where
  cnt : Rco w 0 X 3 (xqCells T pv nv kv ku pu po pk re) 38 kv ku M
  tab : Rtab w 0 T tv tp J
  rows : ownE pairE w 0 pv P
  nums : ownE intE w 0 nv C
  good : GoodC M
  gj : Good J
  few : J.length ≤ 1000000
  tsep : ∀ k, mineR T tv tp k → ¬ mineX X pv nv kv ku k
  sepP : ∀ k, some k = pv.ownBlock → some k ≠ kv.ownBlock
  sepN : ∀ k, some k = nv.ownBlock → some k ≠ ku.ownBlock
variable {w w' : World} {X T : Nat} {tv tp pv nv kv ku : Value} {J : List Joint} {P : List (Int × Int)} {C : List Int} {M : Cn} {pu po pk re : Int}
set_option maxRecDepth 100000 in
theorem two_types {a b : Obj} {w : World} {k : Nat} (h1 : w.heap[k]? = some a) (h2 : w.heap[k]? = some b) : a = b := by rw [h1] at h2; cases h2; rfl
set_option maxRecDepth 100000 in
theorem XqIn.lt (h : XqIn w X T tv tp pv nv kv ku J P C M pu po pk re) : ∀ k, mineX X pv nv kv ku k ∨ mineR T tv tp k → k < w.heap.size := by
  rintro k ((rfl | e | e | e | e) | e)
  · exact (h.cnt.lt k (.inl rfl)).2
  · exact (h.rows.lt k e.symm).2
  · exact (h.nums.lt k e.symm).2
  · exact (h.cnt.lt k (.inr (.inl e))).2
  · exact (h.cnt.lt k (.inr (.inr e))).2
  · exact (h.tab.lt k e).2
set_option maxRecDepth 100000 in
theorem XqIn.kept (h : XqIn w X T tv tp pv nv kv ku J P C M pu po pk re) (hk : ∀ k, k < w.heap.size → mineX X pv nv kv ku k ∨ mineR T tv tp k → w'.heap[k]? = w.heap[k]?) : XqIn w' X T tv tp pv nv kv ku J P C M pu po pk re :=
  ⟨h.cnt.kept fun k h1 h2 => hk k h1 (.inl (by
      rcases h2 with h2 | h2 | h2
      · exact .inl h2
      · exact .inr (.inr (.inr (.inl h2)))
      · exact .inr (.inr (.inr (.inr h2))))), h.tab.kept fun k h1 h2 => hk k h1 (.inr h2), h.rows.kept fun g hg => hk g (h.rows.lt g hg).2 (.inl (.inr (.inl hg.symm))), h.nums.kept fun g hg => hk g (h.nums.lt g hg).2 (.inl (.inr (.inr (.inl hg.symm)))), h.good, h.gj, h.few, h.tsep, h.sepP, h.sepN⟩
set_option maxRecDepth 100000 in
theorem XqIn.below (h : XqIn w X T tv tp pv nv kv ku J P C M pu po pk re) (hb : Below w.heap.size w w') : XqIn w' X T tv tp pv nv kv ku J P C M pu po pk re := h.kept fun k a _ => hb.block k a
set_option maxRecDepth 100000 in
theorem XqIn.grown (h : XqIn w X T tv tp pv nv kv ku J P C M pu po pk re) (g : Grown w w') : XqIn w' X T tv tp pv nv kv ku J P C M pu po pk re := h.below g.below
set_option maxRecDepth 100000 in
theorem XqIn.drew (h : XqIn w X T tv tp pv nv kv ku J P C M pu po pk re) : XqIn w.drew X T tv tp pv nv kv ku J P C M pu po pk re := h.kept fun _ _ _ => rfl
set_option maxRecDepth 100000 in
theorem XqIn.cells (h : XqIn w X T tv tp pv nv kv ku J P C M pu po pk re) : w.cell? ⟨X, 0, none⟩ = some (.pointer (some ⟨T, 0, none⟩)) ∧ w.cell? ⟨X, 1, none⟩ = some pv ∧ w.cell? ⟨X, 2, none⟩ = some nv ∧ w.cell? ⟨X, 3, none⟩ = some kv ∧ w.cell? ⟨X, 4, none⟩ = some ku ∧ w.cell? ⟨X, 5, none⟩ = some (.int .i64 0) ∧ w.cell? ⟨X, 6, none⟩ = some (.int .i64 0) ∧ w.cell? ⟨X, 7, none⟩ = some (.int .i64 pu) ∧ w.cell? ⟨X, 8, none⟩ = some (.int .i64 po) ∧ w.cell? ⟨X, 9, none⟩ = some (.int .i64 pk) ∧ w.cell? ⟨X, 10, none⟩ = some (.int .i64 re) := by
  refine ⟨?_, ?_, ?_, ?_, ?_, ?_, ?_, ?_, ?_, ?_, ?_⟩ <;> · rw [cell_of_row w X _ _ 38 (0, 0) h.cnt.box]; rfl
set_option maxRecDepth 100000 in
theorem XqIn.frozen (h : XqIn w X T tv tp pv nv kv ku J P C M pu po pk re) (i : Nat) : w.frozen? ⟨X, i, none⟩ = false := Lib.frozen_of_heap h.cnt.box _
set_option maxRecDepth 100000 in
/-- Rows are not the queue's box, and rows of pairs are not rows of numbers. -/
theorem XqIn.notX (h : XqIn w X T tv tp pv nv kv ku J P C M pu po pk re) : ∀ k, some k = pv.ownBlock ∨ some k = nv.ownBlock ∨ some k = kv.ownBlock ∨ some k = ku.ownBlock → k ≠ X := by
  rintro k (e | e | e | e) rfl
  · obtain ⟨cs, hcs⟩ := h.rows.block k e.symm
    have := two_types hcs h.cnt.box
    simp [pairE] at this
  · obtain ⟨cs, hcs⟩ := h.nums.block k e.symm
    have := two_types hcs h.cnt.box
    simp [intE] at this
  · obtain ⟨cs, hcs⟩ := h.cnt.keys.block k e.symm
    have := two_types hcs h.cnt.box
    simp [pairE] at this
  · obtain ⟨cs, hcs⟩ := h.cnt.vals.block k e.symm
    have := two_types hcs h.cnt.box
    simp [intE] at this
set_option maxRecDepth 100000 in
theorem own_pi {v u : Value} {A : List (Int × Int)} {B : List Int} {a b : Nat} (h : ownE pairE w a v A) (k : ownE intE w b u B) : ∀ i, some i = v.ownBlock → some i ≠ u.ownBlock := fun i e1 e2 => by
  obtain ⟨c1, h1⟩ := h.block i e1.symm
  obtain ⟨c2, h2⟩ := k.block i e2.symm
  have := two_types h1 h2
  simp [pairE, intE] at this
/-- Behind a call that turns it. -/
def XRet (w : World) (X T : Nat) (tv tp pv nv kv ku : Value) (J : List Joint) (P : List (Int × Int)) (C : List Int) (M : Cn) (pu po pk re : Int) (w' : World) : Prop :=
  ∃ pv' nv' kv' ku', XqIn w' X T tv tp pv' nv' kv' ku' J P C M pu po pk re ∧ Kept (mineX X pv nv kv ku) w w' ∧ ∀ k, mineX X pv' nv' kv' ku' k → k < w.heap.size → mineX X pv nv kv ku k
set_option maxRecDepth 100000 in
theorem XRet.after {w1 : World} (h : XRet w1 X T tv tp pv nv kv ku J P C M pu po pk re w') (g : Below w.heap.size w w1) : XRet w X T tv tp pv nv kv ku J P C M pu po pk re w' := by
  obtain ⟨a, b, c, d, h1, h2, h3⟩ := h
  exact ⟨a, b, c, d, h1, (Kept.of_below (S := mineX X pv nv kv ku) g (Nat.le_refl _)).trans h2 fun _ _ h => h, fun k e1 e2 => h3 k e1 (Nat.lt_of_lt_of_le e2 g.size)⟩
set_option maxRecDepth 100000 in
theorem XRet.then {w1 : World} {P' : List (Int × Int)} {C' : List Int} {M' : Cn} {pu' po' pk' re' : Int} (h : XRet w X T tv tp pv nv kv ku J P C M pu po pk re w1) (g : ∀ pv1 nv1 kv1 ku1, XqIn w1 X T tv tp pv1 nv1 kv1 ku1 J P C M pu po pk re → XRet w1 X T tv tp pv1 nv1 kv1 ku1 J P' C' M' pu' po' pk' re' w') : XRet w X T tv tp pv nv kv ku J P' C' M' pu' po' pk' re' w' := by
  obtain ⟨a, b, c, d, h1, h2, h3⟩ := h
  obtain ⟨a', b', c', d', k1, k2, k3⟩ := g a b c d h1
  exact ⟨a', b', c', d', k1, h2.trans k2 fun k e1 e2 => h3 k e2 e1, fun k e1 e2 => h3 k (k3 k e1 (Nat.lt_of_lt_of_le e2 h2.size)) e2⟩
set_option maxRecDepth 100000 in
/-- Known alone has turned. -/
theorem XqIn.known {kv' ku' : Value} {M' : Cn} (h : XqIn w X T tv tp pv nv kv ku J P C M pu po pk re) (hc : Rco w' 0 X 3 (xqCells T pv nv kv' ku' pu po pk re) 38 kv' ku' M') (hk : Kept (fun k => k = X) w w') (ho : ∀ k, some k = kv'.ownBlock ∨ some k = ku'.ownBlock → k < w.heap.size → some k = kv.ownBlock ∨ some k = ku.ownBlock)
    (hg : GoodC M') : XRet w X T tv tp pv nv kv ku J P C M' pu po pk re w' := by
  have hnew : ∀ k, mineX X pv nv kv' ku' k → k < w.heap.size → mineX X pv nv kv ku k := by
    rintro k (e | e | e | e | e) hlt
    · exact .inl e
    · exact .inr (.inl e)
    · exact .inr (.inr (.inl e))
    · exact .inr (.inr (.inr (ho k (.inl e) hlt)))
    · exact .inr (.inr (.inr (ho k (.inr e) hlt)))
  have hT : ∀ k, mineR T tv tp k → k ≠ X := fun k hk1 e => h.tsep k hk1 (.inl e)
  exact ⟨pv, nv, kv', ku', ⟨hc, h.tab.kept fun k h1 h2 => hk.block k h1 (hT k h2), h.rows.kept fun g hg1 => hk.block g (h.rows.lt g hg1).2 (h.notX g (.inl hg1.symm)), h.nums.kept fun g hg1 => hk.block g (h.nums.lt g hg1).2 (h.notX g (.inr (.inl hg1.symm))), hg, h.gj, h.few,
      fun k h1 h2 => h.tsep k h1 (hnew k h2 (h.tab.lt k h1).2),
      fun k e1 e2 => by
        rcases ho k (.inl e2) (h.rows.lt k e1.symm).2 with e | e
        · exact h.sepP k e1 e
        · exact own_pi h.rows h.cnt.vals k e1 e,
      fun k e1 e2 => by
        rcases ho k (.inr e2) (h.nums.lt k e1.symm).2 with e | e
        · exact own_pi h.cnt.keys h.nums k e e1
        · exact h.sepN k e1 e⟩, (Kept.refl (mineX X pv nv kv ku) w).trans hk fun _ _ e => .inl e, hnew⟩
set_option maxRecDepth 100000 in
/-- One of its numbers is written over. -/
theorem XqIn.num {i : Nat} {x pu' po' pk' re' : Int} (h : XqIn w X T tv tp pv nv kv ku J P C M pu po pk re) (hi : 5 ≤ i) (hc : (xqCells T pv nv kv ku pu po pk re).setIfInBounds i (.int .i64 x) = xqCells T pv nv kv ku pu' po' pk' re') : XRet w X T tv tp pv nv kv ku J P C M pu' po' pk' re' (w.setCell ⟨X, i, none⟩ (.int .i64 x)) := by
  have hne : ∀ k, k ≠ X → (w.setCell ⟨X, i, none⟩ (.int .i64 x)).heap[k]? = w.heap[k]? := fun k hk => Below.heap_setCell _ ⟨X, i, none⟩ _ k hk
  refine ⟨pv, nv, kv, ku, ⟨?_, h.tab.kept fun k _ h2 => hne k fun e => h.tsep k h2 (.inl e), h.rows.kept fun g hg => hne g (h.notX g (.inl hg.symm)), h.nums.kept fun g hg => hne g (h.notX g (.inr (.inl hg.symm))), h.good, h.gj, h.few, h.tsep, h.sepP, h.sepN⟩, (Kept.refl (mineX X pv nv kv ku) w).setCell ⟨X, i, none⟩ _ fun _ => .inl rfl, fun _ h _ => h⟩
  have := h.cnt.setCell (by decide) i (.int .i64 x) (by omega) (by omega)
  rw [hc] at this
  exact this
set_option maxRecDepth 100000 in
/-- The rows have grown (or are others), and are laid into the queue's box. -/
theorem XqIn.newRows {w4 : World} {rp rc : Value} {P' : List (Int × Int)} {C' : List Int} (h : XqIn w X T tv tp pv nv kv ku J P C M pu po pk re) (hk : Kept (fun k => some k = pv.ownBlock ∨ some k = nv.ownBlock) w w4) (hp : ownE pairE w4 0 rp P') (hc : ownE intE w4 0 rc C')
    (op : ∀ k, some k = rp.ownBlock → k < w.heap.size → some k = pv.ownBlock) (oc : ∀ k, some k = rc.ownBlock → k < w.heap.size → some k = nv.ownBlock) : XRet w X T tv tp pv nv kv ku J P' C' M pu po pk re ((w4.setCell ⟨X, 1, none⟩ rp).setCell ⟨X, 2, none⟩ rc) := by
  have hkv : ∀ k, some k = kv.ownBlock → ¬ (some k = pv.ownBlock ∨ some k = nv.ownBlock) := fun k e1 e2 => by
    rcases e2 with e2 | e2
    · exact h.sepP k e2 e1
    · exact own_pi h.cnt.keys h.nums k e1 e2
  have hku : ∀ k, some k = ku.ownBlock → ¬ (some k = pv.ownBlock ∨ some k = nv.ownBlock) := fun k e1 e2 => by
    rcases e2 with e2 | e2
    · exact own_pi h.rows h.cnt.vals k e2 e1
    · exact h.sepN k e2 e1
  have hXX : ¬ (some X = pv.ownBlock ∨ some X = nv.ownBlock) := fun e => by
    rcases e with e | e
    · exact h.notX X (.inl e) rfl
    · exact h.notX X (.inr (.inl e)) rfl
  have hXlt := h.lt X (.inl (.inl rfl))
  have c4 : Rco w4 0 X 3 (xqCells T pv nv kv ku pu po pk re) 38 kv ku M := h.cnt.kept fun k h1 h2 => hk.block k h1 (by
    rcases h2 with rfl | h2 | h2
    · exact hXX
    · exact hkv k h2
    · exact hku k h2)
  have c6 := (c4.setCell (by decide) 1 rp (by decide) (by decide)).setCell (by decide) 2 rc (by decide) (by decide)
  have hne : ∀ k, k ≠ X → ((w4.setCell ⟨X, 1, none⟩ rp).setCell ⟨X, 2, none⟩ rc).heap[k]? = w4.heap[k]? := fun k hk1 => by rw [Below.heap_setCell _ ⟨X, 2, none⟩ _ k hk1, Below.heap_setCell _ ⟨X, 1, none⟩ _ k hk1]
  have hrpX : ∀ k, some k = rp.ownBlock → k ≠ X := fun k e e2 => by subst e2; exact hXX (.inl (op k e hXlt))
  have hrcX : ∀ k, some k = rc.ownBlock → k ≠ X := fun k e e2 => by subst e2; exact hXX (.inr (oc k e hXlt))
  have hnew : ∀ k, mineX X rp rc kv ku k → k < w.heap.size → mineX X pv nv kv ku k := by
    rintro k (e | e | e | e | e) hlt
    · exact .inl e
    · exact .inr (.inl (op k e hlt))
    · exact .inr (.inr (.inl (oc k e hlt)))
    · exact .inr (.inr (.inr (.inl e)))
    · exact .inr (.inr (.inr (.inr e)))
  refine ⟨rp, rc, kv, ku, ⟨c6, h.tab.kept fun k h1 h2 => (hne k fun e => h.tsep k h2 (.inl e)).trans (hk.block k h1 fun e => h.tsep k h2 (by
      rcases e with e | e
      · exact .inr (.inl e)
      · exact .inr (.inr (.inl e)))), hp.kept fun g hg => hne g (hrpX g hg.symm), hc.kept fun g hg => hne g (hrcX g hg.symm), h.good, h.gj, h.few, fun k h1 h2 => h.tsep k h1 (hnew k h2 (h.tab.lt k h1).2),
      fun k e1 e2 => ?_, fun k e1 e2 => ?_⟩, ?_, hnew⟩
  · have hlt := (h.cnt.lt k (.inr (.inl e2))).2
    exact h.sepP k (op k e1 hlt) e2
  · have hlt := (h.cnt.lt k (.inr (.inr e2))).2
    exact h.sepN k (oc k e1 hlt) e2
  · exact ((((Kept.refl (mineX X pv nv kv ku) w).trans hk fun k _ e => by
      rcases e with e | e
      · exact .inr (.inl e)
      · exact .inr (.inr (.inl e))).setCell ⟨X, 1, none⟩ _ fun _ => .inl rfl).setCell ⟨X, 2, none⟩ _ fun _ => .inl rfl)
end Go.Proofs.Ytbnekkcjkdghcaa
/- The document's queue forgets a pair. -/
namespace Go.Proofs.Ytbnekkcjkdghcaa
open Go.RowKit Go.Maps Go.Shelf
open Go.Sort (grow grow_empty grow_grow alloc_eq_grow heap_grow_old)
variable {w w' : World} {X T : Nat} {tv tp pv nv kv ku : Value} {J : List Joint} {P : List (Int × Int)} {C : List Int} {M : Cn} {pu po pk re : Int}

set_option maxRecDepth 100000 in
set_option maxHeartbeats 2000000 in
theorem xforget_any (p : Int × Int) (h : XqIn w X T tv tp pv nv kv ku J P C M pu po pk re) (hl : M.length ≤ 1000) :
    Calls Try.prog 30 #[.pointer (some ⟨X, 0, none⟩), .agg #[.int .i64 p.1, .int .i64 p.2]] w fun e w' => e = .returned (.tuple #[]) ∧ XRet w X T tv tp pv nv kv ku J P C (delC M p) pu po pk re w' := by
  obtain ⟨a, b⟩ := p
  obtain ⟨N, hN⟩ : ∃ N, w.heap.size = N := ⟨_, rfl⟩
  obtain ⟨wa, hwa⟩ : ∃ wa, w.alloc (.cells #[.int .i64 a, .int .i64 b] 41) = wa := ⟨_, rfl⟩
  have hg : Grown w wa := by rw [← hwa]; exact (Grown.refl w).alloc _
  have hba : wa.heap[N]? = some (.cells #[.int .i64 a, .int .i64 b] 41 (0, 0)) := by rw [← hwa, ← hN]; exact heap_alloc_new w _
  have n0 : wa.cell? ⟨N, 0, none⟩ = some (.int .i64 a) := by rw [cell_of_row wa N _ _ 41 (0, 0) hba]; rfl
  have n1 : wa.cell? ⟨N, 1, none⟩ = some (.int .i64 b) := by rw [cell_of_row wa N _ _ 41 (0, 0) hba]; rfl
  have hNX : N ≠ X := by have := h.lt X (.inl (.inl rfl)); omega
  have ha := h.grown hg
  obtain ⟨g0, g1⟩ := h.good.get (a, b)
  have HG := Lib.hid hg; have HA := Lib.hid ha; have HH := Lib.hid h
  have HS : Hid (∀ W : World, W.heap[N]? = wa.heap[N]? → W.cell? ⟨N, 0, none⟩ = some (.int .i64 a) ∧ W.cell? ⟨N, 1, none⟩ = some (.int .i64 b)) := Lib.hid fun W e => ⟨by rw [cell_of_row W N _ _ 41 (0, 0) (e.trans hba)]; rfl, by rw [cell_of_row W N _ _ 41 (0, 0) (e.trans hba)]; rfl⟩
  have hltN : N < wa.heap.size := (Array.getElem?_eq_some_iff.1 hba).1
  have HSG : Hid (∀ W, Grown wa W → W.cell? ⟨N, 0, none⟩ = some (.int .i64 a) ∧ W.cell? ⟨N, 1, none⟩ = some (.int .i64 b)) := Lib.hid fun W g => HS.out W (g.below.block N hltN)
  have HSK : Hid (∀ W, Kept (fun k => k = X) wa W → W.cell? ⟨N, 0, none⟩ = some (.int .i64 a) ∧ W.cell? ⟨N, 1, none⟩ = some (.int .i64 b)) := Lib.hid fun W g => HS.out W (g.block N hltN hNX)
  have HGE : Hid (∀ W, Grown wa W → Calls Try.prog 13 #[.pointer (some ⟨X, 3, none⟩), .agg #[.int .i64 a, .int .i64 b]] W fun e w' => e = .returned (.int .i64 (getC M (a, b))) ∧ Grown wa w') := Lib.hid fun W g =>
    (rget_any 0 X 3 _ _ kv ku M a b W (ha.cnt.below g.below) (by omega)).mono fun e w' he => by
      obtain ⟨e1, n, rfl⟩ := he
      exact ⟨e1, (g.alloc _).drewN n⟩
  have HAD : Hid (∀ W, Grown wa W → Calls Try.prog 12 #[.pointer (some ⟨X, 3, none⟩), .agg #[.int .i64 a, .int .i64 b], .int .i64 (-(getC M (a, b))), .int .i64 1] W fun e w' => e = .returned (.int .i64 0) ∧ Kept (fun k => k = X) wa w' ∧ XRet w X T tv tp pv nv kv ku J P C (delC M (a, b)) pu po pk re w') := Lib.hid fun W g => by
    have hW := ha.grown g
    have c := dradd_any 0 X 3 _ _ kv ku M a b (-(getC M (a, b))) 1 W hW.cnt hW.good ⟨by omega, by omega⟩ ⟨by omega, by omega⟩ hl
    rw [add_forget hW.good] at c
    exact c.mono fun e w' he => by
      obtain ⟨e1, kv', ku', r1, r2, r3⟩ := he
      refine ⟨e1, (Kept.of_below (S := fun k => k = X) g.below (Nat.le_refl _)).trans r2 fun _ _ h => h, ?_⟩
      exact (hW.known r1 r2 r3 (hW.good.del _)).after (hg.below.trans (g.below.mono hg.below.size))
  have hneg : IntKind.i64.wrap (-(getC M (a, b))) = -(getC M (a, b)) := IntWalk.i64_in _ (by omega)
  have g00 := Grown.refl wa
  obtain ⟨s0, s1⟩ := HSG.out wa g00
  clear h ha hba hg
  go_enter Try.func30, Try.ntmps30
  go_wp2_with fail
  go_region_held3 (fun w' => w'.cell? ⟨N, 0, none⟩ = some (.int .i64 a) ∧ w'.cell? ⟨N, 1, none⟩ = some (.int .i64 b))
    (first | with_reducible exact ⟨s0, s1⟩ | with_reducible exact HSG.out _ (by assumption) | with_reducible exact HSG.out _ (Grown.drew (by assumption)) | with_reducible exact HSK.out _ hk5)
    (first
      | (go_at_call 13
         refine (HGE.out _ (by first | assumption | exact Grown.drew (by assumption))).mono ?_
         rintro e w4 ⟨rfl, hg4⟩)
      | (go_at_call 12
         refine (HAD.out _ (by first | assumption | exact Grown.drew (by assumption))).mono ?_
         rintro e w5 ⟨rfl, hk5, hr5⟩
         have HR5 := Lib.hid hr5
         clear hr5))
  all_goals go_wp2
  all_goals go_end0
  all_goals exact ⟨rfl, HR5.out⟩
end Go.Proofs.Ytbnekkcjkdghcaa
/- The document's queue: one of its rows is laid anew; a call's steps one behind another. -/
namespace Go.Proofs.Ytbnekkcjkdghcaa
open Go.RowKit Go.Maps Go.Shelf
open Go.Sort (grow grow_empty grow_grow alloc_eq_grow heap_grow_old)
variable {w w' w1 w2 : World} {X T : Nat} {tv tp pv nv kv ku pv1 nv1 kv1 ku1 : Value} {J : List Joint} {P P' : List (Int × Int)} {C C' : List Int} {M M' : Cn} {pu po pk re pu' po' pk' re' : Int}

set_option maxRecDepth 100000 in
/-- One step more. -/
theorem xstep (hk : Kept (mineX X pv nv kv ku) w w1) (ho : ∀ k, mineX X pv1 nv1 kv1 ku1 k → k < w.heap.size → mineX X pv nv kv ku k) (h : XRet w1 X T tv tp pv1 nv1 kv1 ku1 J P C M pu po pk re w2) : XRet w X T tv tp pv nv kv ku J P C M pu po pk re w2 := by
  obtain ⟨a', b', c', d', k1, k2, k3⟩ := h
  exact ⟨a', b', c', d', k1, hk.trans k2 fun k e1 e2 => ho k e2 e1, fun k e1 e2 => ho k (k3 k e1 (Nat.lt_of_lt_of_le e2 hk.size)) e2⟩
set_option maxRecDepth 100000 in
/-- A block that isn't the queue's stays. -/
theorem XRet.block (h : XRet w X T tv tp pv nv kv ku J P C M pu po pk re w') {N : Nat} (hN : N < w.heap.size) (hm : ¬ mineX X pv nv kv ku N) : w'.heap[N]? = w.heap[N]? := by
  obtain ⟨_, _, _, _, _, k2, _⟩ := h
  exact k2.block N hN hm
set_option maxRecDepth 100000 in
theorem XRet.grown (h : XRet w X T tv tp pv nv kv ku J P C M pu po pk re w1) (g : Below w1.heap.size w1 w') : XRet w X T tv tp pv nv kv ku J P C M pu po pk re w' := by
  obtain ⟨a', b', c', d', k1, k2, k3⟩ := h
  exact ⟨a', b', c', d', k1.below g, k2.trans (Kept.of_below (S := mineX X pv nv kv ku) g (Nat.le_refl _)) fun _ _ h => h, k3⟩
set_option maxRecDepth 100000 in
theorem XRet.refl (h : XqIn w X T tv tp pv nv kv ku J P C M pu po pk re) : XRet w X T tv tp pv nv kv ku J P C M pu po pk re w := ⟨_, _, _, _, h, Kept.refl _ _, fun _ h _ => h⟩
set_option maxRecDepth 100000 in
/-- Its pairs are laid anew. -/
theorem XqIn.rowP {w4 : World} {rp : Value} (h : XqIn w X T tv tp pv nv kv ku J P C M pu po pk re) (hk : Kept (fun k => some k = pv.ownBlock) w w4) (hp : ownE pairE w4 0 rp P')
    (op : ∀ k, some k = rp.ownBlock → k < w.heap.size → some k = pv.ownBlock) : XRet w X T tv tp pv nv kv ku J P' C M pu po pk re (w4.setCell ⟨X, 1, none⟩ rp) := by
  have hXlt := h.lt X (.inl (.inl rfl))
  have c4 : Rco w4 0 X 3 (xqCells T pv nv kv ku pu po pk re) 38 kv ku M := h.cnt.kept fun k h1 h2 => hk.block k h1 (by
    rcases h2 with rfl | h2 | h2
    · exact fun e => h.notX k (.inl e) rfl
    · exact fun e => h.sepP k e h2
    · exact fun e => own_pi h.rows h.cnt.vals k e h2)
  have c6 := c4.setCell (by decide) 1 rp (by decide) (by decide)
  have hne : ∀ k, k ≠ X → (w4.setCell ⟨X, 1, none⟩ rp).heap[k]? = w4.heap[k]? := fun k hk1 => Below.heap_setCell _ ⟨X, 1, none⟩ _ k hk1
  have hrpX : ∀ k, some k = rp.ownBlock → k ≠ X := fun k e e2 => by subst e2; exact h.notX k (.inl (op k e hXlt)) rfl
  have hnew : ∀ k, mineX X rp nv kv ku k → k < w.heap.size → mineX X pv nv kv ku k := by
    rintro k (e | e | e) hlt
    · exact .inl e
    · exact .inr (.inl (op k e hlt))
    · exact .inr (.inr e)
  have hn4 : ownE intE w4 0 nv C := h.nums.kept fun g hg => hk.block g (h.nums.lt g hg).2 fun e => own_pi h.rows h.nums g e hg.symm
  refine ⟨rp, nv, kv, ku, ⟨c6, h.tab.kept fun k h1 h2 => (hne k fun e => h.tsep k h2 (.inl e)).trans (hk.block k h1 fun e => h.tsep k h2 (.inr (.inl e))), hp.kept fun g hg => hne g (hrpX g hg.symm), hn4.kept fun g hg => hne g (h.notX g (.inr (.inl hg.symm))), h.good, h.gj, h.few, fun k h1 h2 => h.tsep k h1 (hnew k h2 (h.tab.lt k h1).2),
      fun k e1 e2 => h.sepP k (op k e1 (h.cnt.lt k (.inr (.inl e2))).2) e2, h.sepN⟩, ?_, hnew⟩
  exact ((Kept.refl (mineX X pv nv kv ku) w).trans hk fun k _ e => .inr (.inl e)).setCell ⟨X, 1, none⟩ _ fun _ => .inl rfl
set_option maxRecDepth 100000 in
/-- Its counts are laid anew. -/
theorem XqIn.rowN {w4 : World} {rc : Value} (h : XqIn w X T tv tp pv nv kv ku J P C M pu po pk re) (hk : Kept (fun k => some k = nv.ownBlock) w w4) (hc : ownE intE w4 0 rc C')
    (oc : ∀ k, some k = rc.ownBlock → k < w.heap.size → some k = nv.ownBlock) : XRet w X T tv tp pv nv kv ku J P C' M pu po pk re (w4.setCell ⟨X, 2, none⟩ rc) := by
  have hXlt := h.lt X (.inl (.inl rfl))
  have c4 : Rco w4 0 X 3 (xqCells T pv nv kv ku pu po pk re) 38 kv ku M := h.cnt.kept fun k h1 h2 => hk.block k h1 (by
    rcases h2 with rfl | h2 | h2
    · exact fun e => h.notX k (.inr (.inl e)) rfl
    · exact fun e => own_pi h.cnt.keys h.nums k h2 e
    · exact fun e => h.sepN k e h2)
  have c6 := c4.setCell (by decide) 2 rc (by decide) (by decide)
  have hne : ∀ k, k ≠ X → (w4.setCell ⟨X, 2, none⟩ rc).heap[k]? = w4.heap[k]? := fun k hk1 => Below.heap_setCell _ ⟨X, 2, none⟩ _ k hk1
  have hrcX : ∀ k, some k = rc.ownBlock → k ≠ X := fun k e e2 => by subst e2; exact h.notX k (.inr (.inl (oc k e hXlt))) rfl
  have hnew : ∀ k, mineX X pv rc kv ku k → k < w.heap.size → mineX X pv nv kv ku k := by
    rintro k (e | e | e | e) hlt
    · exact .inl e
    · exact .inr (.inl e)
    · exact .inr (.inr (.inl (oc k e hlt)))
    · exact .inr (.inr (.inr e))
  have hp4 : ownE pairE w4 0 pv P := h.rows.kept fun g hg => hk.block g (h.rows.lt g hg).2 fun e => own_pi h.rows h.nums g hg.symm e
  refine ⟨pv, rc, kv, ku, ⟨c6, h.tab.kept fun k h1 h2 => (hne k fun e => h.tsep k h2 (.inl e)).trans (hk.block k h1 fun e => h.tsep k h2 (.inr (.inr (.inl e)))), hp4.kept fun g hg => hne g (h.notX g (.inl hg.symm)), hc.kept fun g hg => hne g (hrcX g hg.symm), h.good, h.gj, h.few, fun k h1 h2 => h.tsep k h1 (hnew k h2 (h.tab.lt k h1).2),
      h.sepP, fun k e1 e2 => h.sepN k (oc k e1 (h.cnt.lt k (.inr (.inr e2))).2) e2⟩, ?_, hnew⟩
  exact ((Kept.refl (mineX X pv nv kv ku) w).trans hk fun k _ e => .inr (.inr (.inl e))).setCell ⟨X, 2, none⟩ _ fun _ => .inl rfl
set_option maxRecDepth 100000 in
/-- Its pairs are a new row. -/
theorem XqIn.freshP {W : World} {r : Value} (h : XqIn w X T tv tp pv nv kv ku J P C M pu po pk re) (hB : Below w.heap.size w W) (ho : ownE pairE W w.heap.size r P') : XRet w X T tv tp pv nv kv ku J P' C M pu po pk re (W.setCell ⟨X, 1, none⟩ r) :=
  h.rowP (Kept.of_below hB (Nat.le_refl _)) (ho.mono (Nat.zero_le _)) fun k e hlt => by have := (ho.lt k e.symm).1; omega
set_option maxRecDepth 100000 in
/-- Its counts are a new row. -/
theorem XqIn.freshN {W : World} {r : Value} (h : XqIn w X T tv tp pv nv kv ku J P C M pu po pk re) (hB : Below w.heap.size w W) (ho : ownE intE W w.heap.size r C') : XRet w X T tv tp pv nv kv ku J P C' M pu po pk re (W.setCell ⟨X, 2, none⟩ r) :=
  h.rowN (Kept.of_below hB (Nat.le_refl _)) (ho.mono (Nat.zero_le _)) fun k e hlt => by have := (ho.lt k e.symm).1; omega
set_option maxRecDepth 100000 in
theorem xbelow {W W' : World} {α : Type} {R : Elt α} {v : Value} {L : List α} (h : Below w.heap.size w W) (hg : W.grownBy W' v.ownBlock) (ho : ownE R W w.heap.size v L) : Below w.heap.size w W' := h.grown hg h.size fun k e => (ho.lt k e).1
set_option maxRecDepth 100000 in
/-- An empty row, laid. -/
theorem xempty {α : Type} (R : Elt α) (w : World) : ownE R (w.alloc (.cells #[] R.ty)) w.heap.size (.slice (some ⟨w.heap.size, 0, none⟩) 0 0) [] :=
  ⟨by simp [ecells], .inr ⟨w.heap.size, 0, #[], rfl, Nat.le_refl _, heap_alloc_new w _, Nat.le_refl _, by unfold maxLen; omega, by simp, by simp [ecells]⟩⟩
end Go.Proofs.Ytbnekkcjkdghcaa
