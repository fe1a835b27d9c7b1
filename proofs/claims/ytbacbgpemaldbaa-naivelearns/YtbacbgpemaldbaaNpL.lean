/- The program's Learn, walked. -/
import Derived.Test.YtbacbgpemaldbaaNpK
import Derived.Test.YtbacbgpemaldbaaNpB
import Derived.Test.YtbacbgpemaldbaaNpJ
import Derived.Test.YtbacbgpemaldbaaCheck
import Derived.Test.YtbacbgpemaldbaaNvLW
import Derived.Deep.LoopGhost
namespace Go.Proofs.Ytbacbgpemaldbaa
open Go.RowKit

/-- What stands while merges are learnt. -/
structure LpS (L : Bag) (least : Int) (w : World) (g gc : Nat) (vO : Value) (ms : List Mg) (wr : World) : Prop where
  out : ownE mergeE wr w.heap.size vO ms
  words : rowsG wr w.heap.size g (runT (startW L) ms)
  counts : rowE intE wr gc (countsOf L)
  bel : Below w.heap.size w wr
  lo : w.heap.size ≤ gc
  each : ∀ i (h : i < ms.length), ∃ n, BestRel (runT (startW L) (ms.take i)) (countsOf L) ms[i] n ∧ least ≤ n
def LpRel2 (L : Bag) (budget least : Int) (w : World) (g gc : Nat) (gh : Nat) (vO : Value) (wr : World) : Prop :=
  ∃ ms, LpS L least w g gc vO ms wr ∧ (ms.length : Int) ≤ max budget 0 ∧ gh = (budget - ms.length).toNat
/-- What stands while the words are merged: the pair b lies in block M, the first i words are behind it. -/
structure LpI (L : Bag) (w : World) (M : Nat) (b : Mg) (g gc : Nat) (vO : Value) (ms : List Mg) (i : Nat) (wr : World) : Prop where
  out : ownE mergeE wr w.heap.size vO (ms ++ [b])
  words : rowsG wr w.heap.size g (mixJ b (runT (startW L) ms) i)
  counts : rowE intE wr gc (countsOf L)
  box : wr.heap[M]? = some (.cells #[.string b.1, .string b.2] 33 (0, 0))
  bel : Below w.heap.size w wr
def LpRel3 (L : Bag) (w : World) (M : Nat) (b : Mg) (g gc : Nat) (vO : Value) (ms : List Mg) (x : Value) (wr : World) : Prop :=
  ∃ i : Nat, x = .int .i64 (i : Int) ∧ i ≤ L.length ∧ LpI L w M b g gc vO ms i wr
variable {L : Bag} {least : Int} {w wr w' : World} {g gc : Nat} {vO : Value} {ms : List Mg} {M i : Nat} {b : Mg}
set_option maxRecDepth 100000 in
theorem LpS.below (h : LpS L least w g gc vO ms wr) (hb : Below wr.heap.size wr w') : LpS L least w g gc vO ms w' :=
  ⟨h.out.below hb, h.words.below hb, h.counts.kept (hb.block gc h.counts.lt), h.bel.trans (hb.mono h.bel.size), h.lo, h.each⟩
set_option maxRecDepth 100000 in
theorem LpI.below (h : LpI L w M b g gc vO ms i wr) (hb : Below wr.heap.size wr w') : LpI L w M b g gc vO ms i w' :=
  ⟨h.out.below hb, h.words.below hb, h.counts.kept (hb.block gc h.counts.lt), (hb.block M (Array.getElem?_eq_some_iff.1 h.box).1).trans h.box, h.bel.trans (hb.mono h.bel.size)⟩
set_option maxRecDepth 100000 in
/-- One more word behind the merge. -/
theorem LpI.put (h : LpI L w M b g gc vO ms i wr) (hi : i < (runT (startW L) ms).length) {W : List ByteArray} (hW : (runT (startW L) ms)[i] = W) {ra : Option Addr} {rc : Nat} (hx : ownE textE wr w.heap.size (.slice ra (joinT b W).length rc) (joinT b W)) : LpI L w M b g gc vO ms (i + 1) (wr.setCell ⟨g, i, none⟩ (.slice ra (joinT b W).length rc)) := by
  subst hW
  have hl := mixJ_len b (runT (startW L) ms) (i := i) (by omega)
  obtain ⟨h0, E, _, ⟨cs, hcc, _⟩, _⟩ := id h.words
  have hne : ∀ {j : Nat} {c : Array Value} {t : TypeId}, wr.heap[j]? = some (.cells c t (0, 0)) → t ≠ slTE.ty → j ≠ g := fun hj ht e => by
    rw [e, hcc] at hj
    injection hj with hj
    injection hj with _ hj
    exact ht hj.symm
  refine ⟨h.out.kept fun j hj => ?_, ?_, h.counts.rows h.words _ _, (Below.heap_setCell _ ⟨g, i, none⟩ _ M (hne h.box (by decide))).trans h.box, h.bel.setCell (p := ⟨g, i, none⟩) h0 _⟩
  · obtain ⟨c, hc⟩ := h.out.block j hj
    exact Below.heap_setCell _ ⟨g, i, none⟩ _ j (hne hc (by decide))
  · have := h.words.put (i := i) (by omega) hx
    rw [mixJ_step hi] at this
    exact this
set_option maxRecDepth 100000 in
/-- A merge is appended. -/
theorem LpS.app {r : Value} {bl br : ByteArray} (h : LpS L least w g gc vO ms wr) (hM : wr.heap[M]? = some (.cells #[.string bl, .string br] 33 (0, 0))) (hMv : vO.ownBlock ≠ some M) (ho : ownE mergeE w' w.heap.size r (ms ++ [(bl, br)])) (hg : wr.grownBy w' vO.ownBlock) : LpI L w M (bl, br) g gc r ms 0 w' := by
  have hs := h.bel.size
  have hty : ∀ {j : Nat} {c : Array Value} {t : TypeId}, wr.heap[j]? = some (.cells c t (0, 0)) → t ≠ mergeE.ty → some j ≠ vO.ownBlock := fun hj ht e => by
    obtain ⟨c2, hc2⟩ := h.out.block _ e.symm
    rw [hj] at hc2
    injection hc2 with hc2
    injection hc2 with _ hc2
    exact ht hc2
  obtain ⟨cc, hcc, _⟩ := id h.counts
  refine ⟨ho, ?_, h.counts.kept (hg.block gc h.counts.lt (hty hcc (by decide))), (hg.block M (Array.getElem?_eq_some_iff.1 hM).1 fun e => hMv e.symm).trans hM, h.bel.grown hg hs fun j e => (h.out.lt j e).1⟩
  rw [mixJ_zero]
  exact h.words.kept fun j c t hj ht => hg.block j (Array.getElem?_eq_some_iff.1 hj).1 (hty hj (by rcases ht with rfl | rfl <;> decide))
def LpRet (L : Bag) (budget least : Int) (w : World) (e : Ending) (w' : World) : Prop :=
  ∃ v ms, e = .returned v ∧ ownE mergeE w' w.heap.size v ms ∧ Below w.heap.size w w' ∧ (((checkOf L).2 ≠ 0 ∨ least < 1) → ms = []) ∧ ((checkOf L).2 = 0 → 1 ≤ least → Learned (startW L) (countsOf L) budget least ms)
end Go.Proofs.Ytbacbgpemaldbaa
