/- The document's example, as the laws ask it. -/
import Derived.Test.YtnonkhnajloloaaHeapW
namespace Go.Proofs.Ytnonkhnajloloaa
open Go.RowKit Go.Shelf
open Go.Sort (grow grow_empty grow_grow alloc_eq_grow heap_grow_old)
attribute [local go_sem] Oper.semAt_some

set_option maxRecDepth 100000 in
theorem ownE.blink {α : Type} {R : Elt α} {w w' : World} {b c : Nat} {v : Value} {L : List α} (h : ownE R w b v L) (k : Blink c w w') : ownE R w' b v L := h.kept fun g hg => by
  obtain ⟨cs, hc⟩ := h.block g hg
  exact (k.cells g _ hc rfl).trans hc.symm
/-- What the example's loop keeps: what has come lies in a row, G1 being what it will be when the round is over. -/
structure AwS (w : World) (K N N0 N1 : Nat) (G G1 : List Int) (u : Value) (s : Value × List It) (W : World) : Prop where
  own : DOwn w.heap.size K ofV 0 3 btI N s W
  awr : AwR G1 s.2
  got : W.heap[N1]? = some (.cells #[u] 47 (0, 0))
  row : ownE intE W w.heap.size u G
  res : W.heap[N0]? = some (.cells #[.bool false] 4 (0, 0))
  bel : Below w.heap.size w W
variable {w W V : World} {K N N0 N1 : Nat} {G G1 : List Int} {u : Value} {s s' : Value × List It}
set_option maxRecDepth 100000 in
theorem AwS.blink {c : Nat} (h : AwS w K N N0 N1 G G1 u s W) (k : Blink c W V) (hc : w.heap.size ≤ c) : AwS w K N N0 N1 G G1 u s V :=
  ⟨⟨h.own.1.blink k, h.own.2.1, box_blink h.own.2.2 k⟩, h.awr, box_blink h.got k, h.row.blink k, box_blink h.res k, h.bel.trans (k.below hc h.bel.size)⟩
set_option maxRecDepth 100000 in
theorem AwS.turn {G2 : List Int} (h : AwS w K N N0 N1 G G1 u s W) (hr : AwR G2 s'.2) (ho : DOwn w.heap.size K ofV 0 3 btI N s' V) (hf : DFr K s W V) : AwS w K N N0 N1 G G2 u s' V := by
  refine ⟨ho, hr, (hf.block N1 (Array.getElem?_eq_some_iff.1 h.got).1 (h.own.1.not_mine h.got (by decide) (by decide))).trans h.got,
    h.row.kept fun g hg => hf.block g (h.row.lt g hg).2 ?_, (hf.block N0 (Array.getElem?_eq_some_iff.1 h.res).1 (h.own.1.not_mine h.res (by decide) (by decide))).trans h.res, ?_⟩
  · obtain ⟨cs, hc⟩ := h.row.block g hg
    exact h.own.1.not_mine hc (by decide) (by decide)
  · exact h.bel.trans (hf.below h.bel.size fun k hk => by
      rcases hk with rfl | e
      · exact h.own.1.base
      · exact (h.own.1.row.lt k e.symm).1)
set_option maxRecDepth 100000 in
theorem AwS.pop {x : It} (h : AwS w K N N0 N1 G G u s W) (hn : DNx s x s') (ho : DOwn w.heap.size K ofV 0 3 btI N s' V) (hf : DFr K s W V) : AwS w K N N0 N1 G (G ++ [x.1]) u s' V ∧ G.length ≤ 2 := by
  obtain ⟨t, e, hp, _⟩ := hn
  have hr := h.awr
  have hh := h.own.2.1
  rw [e] at hr hh
  obtain ⟨h1, h2⟩ := awR_step hr hh hp
  exact ⟨h.turn h1 ho hf, h2⟩
set_option maxRecDepth 100000 in
theorem AwS.app {r : Value} {y : Int} {n : Nat} (h : AwS w K N N0 N1 G (G ++ [y]) u s W) (hn : N1 ≥ w.heap.size) (ho : ownE intE V w.heap.size r (G ++ [y])) (hg : W.grownBy V u.ownBlock) (hr : r.ownBlock = u.ownBlock ∨ r.ownBlock = some n) (hn2 : N1 < n) :
    AwS w K N N0 N1 (G ++ [y]) (G ++ [y]) r s (V.setCell ⟨N1, 0, none⟩ r) ∧ KeepsOthers W (V.setCell ⟨N1, 0, none⟩ r) := by
  have hub : ∀ k cs t fr, W.heap[k]? = some (.cells cs t fr) → t ≠ 3 → u.ownBlock ≠ some k := by
    intro k cs t fr hk ht e
    obtain ⟨cs2, hc⟩ := h.row.block k e
    rw [hk] at hc
    cases hc
    exact ht rfl
  have hk1 : ∀ k, k < W.heap.size → u.ownBlock ≠ some k → k ≠ N1 → (V.setCell ⟨N1, 0, none⟩ r).heap[k]? = W.heap[k]? := fun k hk h1 h2 =>
    (Below.heap_setCell _ ⟨N1, 0, none⟩ _ k h2).trans (hg.block k hk fun e => h1 e.symm)
  have hlt : ∀ k o, W.heap[k]? = some o → k < W.heap.size := fun k o e => (Array.getElem?_eq_some_iff.1 e).1
  have hne1 : ∀ k cs t fr, W.heap[k]? = some (.cells cs t fr) → t ≠ 47 → k ≠ N1 := by
    intro k cs t fr hk ht e
    subst e
    rw [h.got] at hk
    cases hk
    exact ht rfl
  refine ⟨⟨⟨h.own.1.kept fun k hk hm => ?_, h.own.2.1, (hk1 N (hlt _ _ h.own.2.2) (hub _ _ _ _ h.own.2.2 (by decide)) (hne1 _ _ _ _ h.own.2.2 (by decide))).trans h.own.2.2⟩, h.awr, ?_, ho.kept fun g hgr => Below.heap_setCell _ ⟨N1, 0, none⟩ _ g ?_, ?_, ?_⟩, ?_⟩
  · rcases hm with rfl | e
    · exact hk1 _ hk (hub _ _ _ _ h.own.1.box (by decide)) (hne1 _ _ _ _ h.own.1.box (by decide))
    · obtain ⟨cs, hc⟩ := h.own.1.row.block k e.symm
      exact hk1 _ hk (hub _ _ _ _ hc (by decide)) (hne1 _ _ _ _ hc (by decide))
  · exact (heap_setCell_at ((hg.block N1 (hlt _ _ h.got) fun e => hub _ _ _ _ h.got (by decide) e.symm).trans h.got) r).trans rfl
  · intro e
    have e' : g = N1 := e
    subst e'
    rcases hr with hr | hr
    · exact hub _ _ _ _ h.got (by decide) (by rw [← hr, hgr])
    · rw [hr] at hgr
      cases hgr
      exact absurd hn2 (Nat.lt_irrefl _)
  · exact (hk1 N0 (hlt _ _ h.res) (hub _ _ _ _ h.res (by decide)) (hne1 _ _ _ _ h.res (by decide))).trans h.res
  · exact (h.bel.grown hg h.bel.size fun k e => (h.row.lt k e).1).setCell (p := ⟨N1, 0, none⟩) hn _
  · refine (KeepsOthers.of_grownBy hg fun j o e ho => ?_).trans (KeepsOthers.setCell _ _ _)
    obtain ⟨cs, hc⟩ := h.row.block j e
    rw [ho] at hc
    cases hc
    rfl
end Go.Proofs.Ytnonkhnajloloaa
