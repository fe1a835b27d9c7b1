/- What HeapDrains' loop keeps. -/
import Derived.Test.YtnonkhnajloloaaHeapPlP
import Derived.Test.YtnonkhnajloloaaItArg
namespace Go.Proofs.Ytnonkhnajloloaa
open Go.RowKit Go.Shelf
open Go.Sort (grow grow_empty grow_grow alloc_eq_grow heap_grow_old)

set_option maxRecDepth 100000 in
theorem Rh.blocks {w : World} {B K : Nat} {v : Value} {A : List It} {pu pk : Int} (h : Rh w B K v A pu pk) : ∀ k, mine K v k → ∃ o : Obj, w.heap[k]? = some o ∧ o.isCells = true := by
  rintro k (rfl | e)
  · exact ⟨_, h.box, rfl⟩
  · obtain ⟨cs, hc⟩ := h.row.block k e.symm
    exact ⟨_, hc, rfl⟩
set_option maxRecDepth 100000 in
theorem Rh.not_mine {w : World} {B K k : Nat} {v : Value} {A : List It} {pu pk : Int} {cs : Array Value} {t : TypeId} {fr : Nat × Nat} (h : Rh w B K v A pu pk) (hk : w.heap[k]? = some (.cells cs t fr)) (h1 : t ≠ 28) (h2 : t ≠ 32) : ¬ mine K v k := by
  rintro (e | e)
  · have hb := h.box
    rw [← e, hk] at hb
    cases hb
    exact h1 rfl
  · obtain ⟨cs2, hc⟩ := h.row.block k e.symm
    rw [hk] at hc
    cases hc
    exact h2 rfl
/-- The four boxes that the loop's body reads and writes. -/
structure DrB (few j : Int) (K2 Nf Nr Nx Nk : Nat) (W : World) : Prop where
  cf : W.heap[Nf]? = some (.cells #[.int .u8 few] 5 (0, 0))
  cr : W.heap[Nr]? = some (.cells #[.bool false] 4 (0, 0))
  cx : W.heap[Nx]? = some (.cells #[.pointer (some ⟨K2, 0, none⟩)] 26 (0, 0))
  ck : W.heap[Nk]? = some (.cells #[.int .i64 j] 3 (0, 0))
/-- The program's heap under way, the document's, whose items are P in some order, and the boxes. -/
structure DrS (w : World) (few j : Int) (pk : Int) (K1 N K2 Nf Nr Nx Nk : Nat) (v2 : Value) (P L : List It) (s : Value × List It) (W : World) : Prop where
  own : DOwn w.heap.size K1 ofV 0 pk btI N s W
  r : Rh W w.heap.size K2 v2 L 0 0
  perm : P.Perm L
  apart : ∀ k, mine K1 s.1 k → ¬ mine K2 v2 k
  box : DrB few j K2 Nf Nr Nx Nk W
  bel : Below w.heap.size w W
variable {w W V : World} {few j pk : Int} {K1 N K2 Nf Nr Nx Nk : Nat} {v2 u : Value} {P L L' : List It} {s s' : Value × List It}
set_option maxRecDepth 100000 in
theorem DrB.kept {S : Nat → Prop} (h : DrB few j K2 Nf Nr Nx Nk W) (k : Kept S W V) (hS : ∀ i cs t fr, W.heap[i]? = some (.cells cs t fr) → t = 5 ∨ t = 4 ∨ t = 26 ∨ t = 3 → ¬ S i) : DrB few j K2 Nf Nr Nx Nk V :=
  ⟨(k.block Nf (Array.getElem?_eq_some_iff.1 h.cf).1 (hS _ _ _ _ h.cf (by simp))).trans h.cf, (k.block Nr (Array.getElem?_eq_some_iff.1 h.cr).1 (hS _ _ _ _ h.cr (by simp))).trans h.cr,
    (k.block Nx (Array.getElem?_eq_some_iff.1 h.cx).1 (hS _ _ _ _ h.cx (by simp))).trans h.cx, (k.block Nk (Array.getElem?_eq_some_iff.1 h.ck).1 (hS _ _ _ _ h.ck (by simp))).trans h.ck⟩
set_option maxRecDepth 100000 in
theorem DrB.blink {c : Nat} (h : DrB few j K2 Nf Nr Nx Nk W) (k : Blink c W V) : DrB few j K2 Nf Nr Nx Nk V := ⟨box_blink h.cf k, box_blink h.cr k, box_blink h.cx k, box_blink h.ck k⟩
set_option maxRecDepth 100000 in
theorem Rh.blink {b B K : Nat} {v : Value} {A : List It} {pu pk : Int} (h : Rh W B K v A pu pk) (k : Blink b W V) : Rh V B K v A pu pk :=
  h.kept fun i _ hi => by
    obtain ⟨o, ho, hc⟩ := h.blocks i hi
    exact (k.cells i o ho hc).trans ho.symm
set_option maxRecDepth 100000 in
theorem DrS.blink {c : Nat} (h : DrS w few j pk K1 N K2 Nf Nr Nx Nk v2 P L s W) (k : Blink c W V) (hc : w.heap.size ≤ c) : DrS w few j pk K1 N K2 Nf Nr Nx Nk v2 P L s V :=
  ⟨⟨h.own.1.blink k, h.own.2.1, box_blink h.own.2.2 k⟩, h.r.blink k, h.perm, h.apart, h.box.blink k, h.bel.trans (k.below hc h.bel.size)⟩
set_option maxRecDepth 100000 in
/-- A pop: the document's heap stays. -/
theorem DrS.turn (h : DrS w few j pk K1 N K2 Nf Nr Nx Nk v2 P L s W) (ho : DOwn w.heap.size K1 ofV 0 pk btI N s' V) (hf : DFr K1 s W V) (hb : s'.1.ownBlock = s.1.ownBlock) : DrS w few j pk K1 N K2 Nf Nr Nx Nk v2 P L s' V :=
  ⟨ho, h.r.kept fun k hk hm => hf.block k hk fun e => h.apart k e hm, h.perm, fun k hm => h.apart k (by unfold mine at hm ⊢; rwa [hb] at hm),
    h.box.kept hf fun i cs t fr hi ht => h.own.1.not_mine hi (by rcases ht with rfl | rfl | rfl | rfl <;> decide) (by rcases ht with rfl | rfl | rfl | rfl <;> decide),
    h.bel.trans (hf.below h.bel.size fun k hk => (h.own.1.in' k hk).1)⟩
set_option maxRecDepth 100000 in
/-- A drop: the program's heap stays. -/
theorem DrS.drop (h : DrS w few j pk K1 N K2 Nf Nr Nx Nk v2 P L s W) (hr : Rh V w.heap.size K2 u L' 0 0) (hp : s.2.Perm L') (hk : Kept (mine K2 v2) W V) (hu : Moved v2 u W.heap.size) : DrS w few j pk K1 N K2 Nf Nr Nx Nk u s.2 L' s V := by
  refine ⟨⟨h.own.1.kept fun k hlt hm => hk.block k hlt fun e => h.apart k hm e, h.own.2.1, (hk.block N (Array.getElem?_eq_some_iff.1 h.own.2.2).1 (h.r.not_mine h.own.2.2 (by decide) (by decide))).trans h.own.2.2⟩, hr, hp, fun k hm hm2 => ?_,
    h.box.kept hk fun i cs t fr hi ht => h.r.not_mine hi (by rcases ht with rfl | rfl | rfl | rfl <;> decide) (by rcases ht with rfl | rfl | rfl | rfl <;> decide),
    h.bel.trans (hk.below h.bel.size fun k hm => (h.r.in' k hm).1)⟩
  rcases hm2 with hm2 | hm2
  · exact h.apart k hm (.inl hm2)
  · rcases hu with hu | hu
    · exact h.apart k hm (.inr (by rw [hm2, hu]))
    · have := hu k hm2.symm
      have := (h.own.1.in' k hm).2
      omega
set_option maxRecDepth 100000 in
/-- k goes up. -/
theorem DrS.count (h : DrS w few j pk K1 N K2 Nf Nr Nx Nk v2 P L s W) (hn : w.heap.size ≤ Nk) (i : Int) : DrS w few i pk K1 N K2 Nf Nr Nx Nk v2 P L s (W.setCell ⟨Nk, 0, none⟩ (.int .i64 i)) := by
  have hk : Kept (fun k => k = Nk) W (W.setCell ⟨Nk, 0, none⟩ (.int .i64 i)) := (Kept.refl (fun k => k = Nk) W).setCell ⟨Nk, 0, none⟩ _ fun _ => rfl
  have hne : ∀ (k : Nat) (cs : Array Value) (t : TypeId) (fr : Nat × Nat), W.heap[k]? = some (.cells cs t fr) → t ≠ 3 → k ≠ Nk := by
    intro k cs t fr h1 ht e
    subst e
    rw [h.box.ck] at h1
    cases h1
    exact ht rfl
  have hb : ∀ (k : Nat) (cs : Array Value) (t : TypeId) (fr : Nat × Nat), W.heap[k]? = some (.cells cs t fr) → t ≠ 3 → (W.setCell ⟨Nk, 0, none⟩ (.int .i64 i)).heap[k]? = W.heap[k]? := fun k cs t fr h1 ht => hk.block k (Array.getElem?_eq_some_iff.1 h1).1 (hne k cs t fr h1 ht)
  refine ⟨⟨h.own.1.kept fun k _ hm => ?_, h.own.2.1, (hb _ _ _ _ h.own.2.2 (by decide)).trans h.own.2.2⟩, h.r.kept fun k _ hm => ?_, h.perm, h.apart,
    ⟨(hb _ _ _ _ h.box.cf (by decide)).trans h.box.cf, (hb _ _ _ _ h.box.cr (by decide)).trans h.box.cr, (hb _ _ _ _ h.box.cx (by decide)).trans h.box.cx, (heap_setCell_at h.box.ck _).trans rfl⟩, h.bel.setCell (p := ⟨Nk, 0, none⟩) hn _⟩
  · rcases hm with rfl | e
    · exact hb _ _ _ _ h.own.1.box (by decide)
    · obtain ⟨cs, hc⟩ := h.own.1.row.block k e.symm
      exact hb _ _ _ _ hc (by decide)
  · rcases hm with rfl | e
    · exact hb _ _ _ _ h.r.box (by decide)
    · obtain ⟨cs, hc⟩ := h.r.row.block k e.symm
      exact hb _ _ _ _ hc (by decide)
set_option maxRecDepth 100000 in
theorem DrB.cells (h : DrB few j K2 Nf Nr Nx Nk W) : W.cell? ⟨Nf, 0, none⟩ = some (.int .u8 few) ∧ W.cell? ⟨Nr, 0, none⟩ = some (.bool false) ∧ W.cell? ⟨Nx, 0, none⟩ = some (.pointer (some ⟨K2, 0, none⟩)) ∧ W.cell? ⟨Nk, 0, none⟩ = some (.int .i64 j) ∧ W.frozen? ⟨Nr, 0, none⟩ = false ∧ W.frozen? ⟨Nk, 0, none⟩ = false :=
  ⟨by rw [cell_of_row W Nf 0 _ _ (0, 0) h.cf]; rfl, by rw [cell_of_row W Nr 0 _ _ (0, 0) h.cr]; rfl, by rw [cell_of_row W Nx 0 _ _ (0, 0) h.cx]; rfl, by rw [cell_of_row W Nk 0 _ _ (0, 0) h.ck]; rfl, Lib.frozen_of_heap h.cr _, Lib.frozen_of_heap h.ck _⟩
/-- How many are taken, of n, when few and one are enough. -/
def capOf (n few : Int) : Int := if few + 1 < n then few + 1 else n
set_option maxRecDepth 100000 in
theorem capOf_all {n few : Int} (h : n ≤ few + 1) : capOf n few = n := by unfold capOf; rw [if_neg (by omega)]
set_option maxRecDepth 100000 in
theorem capOf_some {n few : Int} (h : few + 1 ≤ n) : capOf n few = few + 1 := by unfold capOf; split <;> omega
end Go.Proofs.Ytnonkhnajloloaa
