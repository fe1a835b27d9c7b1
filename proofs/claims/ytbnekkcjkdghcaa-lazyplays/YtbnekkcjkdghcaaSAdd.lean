/- A symbol is put behind all others. -/
import Derived.Test.YtbnekkcjkdghcaaSTab
import Derived.Deep.RegionHeld3
namespace Go.Proofs.Ytbnekkcjkdghcaa
open Go.RowKit Go.Maps

/-- What Join leaves: the table has the symbols J; no block but its own has turned, and its blocks are those that it had, or new ones. -/
def JoinRet (K : Nat) (v : Value) (b : Option Nat) (J : List Joint) (w w' : World) : Prop :=
  ∃ v' b', Stab w' K v' b' J ∧ Kept (mineT K v b) w w' ∧ ∀ k, mineT K v' b' k → k < w.heap.size → mineT K v b k
set_option maxRecDepth 100000 in
theorem JoinRet.refl {K : Nat} {v : Value} {b : Option Nat} {J : List Joint} {w : World} (h : Stab w K v b J) : JoinRet K v b J w w := ⟨v, b, h, Kept.refl _ _, fun _ h _ => h⟩
set_option maxRecDepth 100000 in
theorem JoinRet.below {K : Nat} {v : Value} {b : Option Nat} {J : List Joint} {w w' : World} (h : Stab w K v b J) (hb : Below w.heap.size w w') : JoinRet K v b J w w' := ⟨v, b, h.below hb, Kept.of_below hb (Nat.le_refl _), fun _ h _ => h⟩
set_option maxRecDepth 100000 in
theorem JoinRet.after {K : Nat} {v : Value} {b : Option Nat} {J : List Joint} {w w1 w' : World} (hb : Below w.heap.size w w1) (h : JoinRet K v b J w1 w') : JoinRet K v b J w w' := by
  obtain ⟨v', b', h1, h2, h3⟩ := h
  exact ⟨v', b', h1, (Kept.of_below hb (Nat.le_refl _)).trans h2 fun i _ hm => hm, fun k hk hlt => h3 k hk (Nat.lt_of_lt_of_le hlt hb.size)⟩
set_option maxRecDepth 100000 in
/-- A map made and laid into the table. -/
theorem made_stab {w : World} {K : Nat} {v : Value} {J : List Joint} (h : Stab w K v none J) : Stab ((w.alloc (.map #[] 0)).setCell ⟨K, 1, none⟩ (.map (some w.heap.size))) K v (some w.heap.size) J := by
  have hK := h.lt K (.inl rfl)
  obtain ⟨L, hm, hL⟩ := h.map
  have hL0 : L = [] := hL
  subst hL0
  have hJ := mapOf_none hm
  subst hJ
  have h1 : (w.alloc (.map #[] 0)).heap[K]? = some (.cells #[v, .map none] 70 (0, 0)) := (Below.heap_alloc w _ K hK).trans h.cells
  refine ⟨heap_setCell_at h1 _, good_nil, h.row.kept fun g hg => ?_, [], mapOf_nil, ?_⟩
  · have hg1 := (h.row.lt g hg).2
    obtain ⟨cs, hc⟩ := h.row.block g hg
    rw [Below.heap_setCell _ _ _ _ (show g ≠ K by rintro rfl; rw [h.cells] at hc; cases hc)]
    exact Below.heap_alloc w _ g hg1
  · exact (World.ownsMap_made w Try.prog 9 (plainElem (H := Unit) Try.prog 3)).setCell (by show w.heap.size ≠ K; omega) _
set_option maxRecDepth 100000 in
/-- The last step: the row is longer by one, and is laid into the table. -/
theorem add_last {w w2 w3 : World} {K m : Nat} {v r : Value} {b : Option Nat} {J : List Joint} {x : Joint} {L : Bag} {o : Obj} (hK : w2.heap[K]? = some (.cells #[v, .map (some m)] 70 (0, 0))) (hg : Good (J ++ [x])) (hrow : ownE jointE w2 0 v J)
    (hmap : mapIs w2 (some m) L) (hM : MapOf (J ++ [x]) L) (hk : Kept (mineT K v b) w w2) (hmb : m < w.heap.size → b = some m) (ho : ownE jointE w3 0 r (J ++ [x])) (hgr : (w2.alloc o).drew.grownBy w3 v.ownBlock)
    (hb : r.ownBlock = v.ownBlock ∨ r.ownBlock = some (w2.alloc o).drew.heap.size) : JoinRet K v b (J ++ [x]) w (w3.setCell ⟨K, 0, none⟩ r) := by
  have hK2 := (Array.getElem?_eq_some_iff.1 hK).1
  have hm2 := hmap.lt
  have hs : (w2.alloc o).drew.heap.size = w2.heap.size + 1 := by show (w2.alloc o).heap.size = _; rw [World.size_alloc]
  have old : ∀ k, k < w2.heap.size → some k ≠ v.ownBlock → w3.heap[k]? = w2.heap[k]? := fun k hk hne => (hgr.block k (by omega) hne).trans (Below.heap_alloc w2 o k hk)
  have nK : some K ≠ v.ownBlock := fun e => by
    obtain ⟨cs, hc⟩ := hrow.block K e.symm
    rw [hK] at hc; cases hc
  have nm : some m ≠ v.ownBlock := fun e => by
    obtain ⟨cs, hc⟩ := hrow.block m e.symm
    obtain ⟨es, cl, hb⟩ := hmap.block
    rw [hb] at hc; cases hc
  have h3 := (old K hK2 nK).trans hK
  have nr : ∀ g, r.ownBlock = some g → g ≠ K := fun g hg e => by
    obtain ⟨cs, hc⟩ := ho.block g hg
    rw [e, h3] at hc; cases hc
  have mK : m ≠ K := fun e => by
    obtain ⟨es, cl, hb⟩ := hmap.block
    rw [e, hK] at hb; cases hb
  refine ⟨r, some m, ⟨heap_setCell_at h3 r, hg, ho.kept fun g hg => Below.heap_setCell _ _ _ _ (nr g hg), L, hM, hmap.kept fun m' e => ?_⟩, ?_, ?_⟩
  · cases e
    rw [Below.heap_setCell _ _ _ _ mK]
    exact old m hm2 nm
  · refine Kept.setCell ?_ _ _ fun _ => .inl rfl
    refine Kept.grown ((hk.alloc o).drew) hgr fun k e _ => .inr (.inl e.symm)
  · rintro k (e | e | e) hlt
    · exact .inl e
    · rcases hb with hb | hb
      · exact .inr (.inl (by rw [e, hb]))
      · rw [hb] at e
        cases e
        have := hk.size
        omega
    · cases e
      exact .inr (.inr (hmb hlt).symm)
set_option maxRecDepth 100000 in
/-- What stands behind the map's making. -/
theorem put_facts {w wb w2 : World} {K N m : Nat} {v : Value} {b : Option Nat} {J : List Joint} {t : ByteArray} {p q : Int} (hA : Stab wb K v (some m) J) (hN : wb.heap[N]? = some (.cells #[.string t, .int .i64 p, .int .i64 q] 111 (0, 0)))
    (hk : Kept (mineT K v b) w wb) (hmb : m < w.heap.size → b = some m) (hgr : wb.drew.grownBy w2 (some m)) :
    w2.heap[K]? = some (.cells #[v, .map (some m)] 70 (0, 0)) ∧ w2.heap[N]? = some (.cells #[.string t, .int .i64 p, .int .i64 q] 111 (0, 0)) ∧ ownE jointE w2 0 v J ∧ Kept (mineT K v b) w w2 := by
  obtain ⟨L, _, hL⟩ := hA.map
  obtain ⟨es, cl, hm⟩ := hL.block
  have hK2 := (Array.getElem?_eq_some_iff.1 hA.cells).1
  have hN2 := (Array.getElem?_eq_some_iff.1 hN).1
  have nK : some K ≠ some m := fun e => by cases e; rw [hA.cells] at hm; cases hm
  have nN : some N ≠ some m := fun e => by cases e; rw [hN] at hm; cases hm
  refine ⟨(hgr.block K hK2 nK).trans hA.cells, (hgr.block N hN2 nN).trans hN, hA.row.kept fun g hg => hgr.block g (hA.row.lt g hg).2 ?_, (hk.drew).grown hgr fun k e hlt => ?_⟩
  · intro e
    cases e
    obtain ⟨cs, hc⟩ := hA.row.block m hg
    rw [hm] at hc; cases hc
  · cases e
    exact .inr (.inr (hmb hlt).symm)
set_option maxRecDepth 100000 in
/-- The cells of the box, and of the table. -/
theorem box_cells {w : World} {N : Nat} {t : ByteArray} {p q : Int} (h : w.heap[N]? = some (.cells #[.string t, .int .i64 p, .int .i64 q] 111 (0, 0))) : w.cell? ⟨N, 0, none⟩ = some (.string t) ∧ w.cell? ⟨N, 1, none⟩ = some (.int .i64 p) ∧ w.cell? ⟨N, 2, none⟩ = some (.int .i64 q) :=
  ⟨by rw [cell_of_row _ N 0 _ 111 (0, 0) h]; rfl, by rw [cell_of_row _ N 1 _ 111 (0, 0) h]; rfl, by rw [cell_of_row _ N 2 _ 111 (0, 0) h]; rfl⟩
set_option maxRecDepth 100000 in
theorem tab_cells {w : World} {K : Nat} {v u : Value} (h : w.heap[K]? = some (.cells #[v, u] 70 (0, 0))) : w.cell? ⟨K, 0, none⟩ = some v ∧ w.frozen? ⟨K, 0, none⟩ = false :=
  ⟨by rw [cell_of_row _ K 0 _ 70 (0, 0) h]; rfl, Lib.frozen_of_heap h 0⟩
set_option maxRecDepth 100000 in
theorem laid_facts {w2 : World} {K N : Nat} {v u : Value} {t : ByteArray} {p q : Int} (hK : w2.heap[K]? = some (.cells #[v, u] 70 (0, 0))) (hN : w2.heap[N]? = some (.cells #[.string t, .int .i64 p, .int .i64 q] 111 (0, 0))) (o : Obj) :
    (w2.alloc o).drew.heap[K]? = some (.cells #[v, u] 70 (0, 0)) ∧ (w2.alloc o).drew.heap[N]? = some (.cells #[.string t, .int .i64 p, .int .i64 q] 111 (0, 0)) :=
  ⟨(Below.heap_alloc w2 o K (Array.getElem?_eq_some_iff.1 hK).1).trans hK, (Below.heap_alloc w2 o N (Array.getElem?_eq_some_iff.1 hN).1).trans hN⟩
set_option maxRecDepth 100000 in
theorem grown_facts {w2 w3 : World} {K N : Nat} {v u : Value} {t : ByteArray} {p q : Int} {J : List Joint} (hK : w2.heap[K]? = some (.cells #[v, u] 70 (0, 0))) (hN : w2.heap[N]? = some (.cells #[.string t, .int .i64 p, .int .i64 q] 111 (0, 0))) (hrow : ownE jointE w2 0 v J) (hV : some N ≠ v.ownBlock)
    (hgr : w2.grownBy w3 v.ownBlock) : w3.heap[K]? = some (.cells #[v, u] 70 (0, 0)) ∧ w3.heap[N]? = some (.cells #[.string t, .int .i64 p, .int .i64 q] 111 (0, 0)) := by
  refine ⟨(hgr.block K (Array.getElem?_eq_some_iff.1 hK).1 fun e => ?_).trans hK, (hgr.block N (Array.getElem?_eq_some_iff.1 hN).1 hV).trans hN⟩
  obtain ⟨cs, hc⟩ := hrow.block K e.symm
  rw [hK] at hc; cases hc
end Go.Proofs.Ytbnekkcjkdghcaa
