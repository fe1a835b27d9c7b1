/- The program's heap and the document's, side by side. -/
import Derived.Test.YtnonkhnajloloaaHeapAwW
import Derived.Test.YtnonkhnajloloaaHeapQ
namespace Go.Proofs.Ytnonkhnajloloaa
open Go.RowKit Go.Shelf
open Go.Sort (grow grow_empty grow_grow alloc_eq_grow heap_grow_old)

set_option maxRecDepth 100000 in
theorem Hp.in' {w : World} {B K : Nat} {fv v : Value} {A : List It} {pu pk : Int} (h : Hp w B K fv v A pu pk) : ∀ k, mine K v k → B ≤ k ∧ k < w.heap.size := by
  rintro k (rfl | e)
  · exact ⟨h.base, h.ltK⟩
  · exact h.row.lt k e.symm
set_option maxRecDepth 100000 in
theorem Rh.in' {w : World} {B K : Nat} {v : Value} {A : List It} {pu pk : Int} (h : Rh w B K v A pu pk) : ∀ k, mine K v k → B ≤ k ∧ k < w.heap.size := by
  rintro k (rfl | e)
  · exact ⟨h.base, h.ltK⟩
  · exact h.row.lt k e.symm
/-- The program's heap of items A, the document's of items L: the same, in some order; no block is both's. -/
structure PlS (w : World) (K1 K2 : Nat) (pu pk : Int) (v1 v2 : Value) (A L : List It) (W : World) : Prop where
  h : Hp W w.heap.size K1 ofV v1 A pu pk
  o : HeapFrom btI A 0
  r : Rh W w.heap.size K2 v2 L pu pk
  perm : A.Perm L
  apart : ∀ k, mine K1 v1 k → ¬ mine K2 v2 k
  bel : Below w.heap.size w W
variable {w W V : World} {K1 K2 : Nat} {pu pk qu qk : Int} {v1 v2 u : Value} {A A' L L' : List It}
set_option maxRecDepth 100000 in
theorem PlS.grown (s : PlS w K1 K2 pu pk v1 v2 A L W) (k : Below W.heap.size W V) : PlS w K1 K2 pu pk v1 v2 A L V :=
  ⟨s.h.below k, s.o, s.r.below k, s.perm, s.apart, s.bel.trans (k.mono s.bel.size)⟩
/-- A change of the program's heap, with the document's as it was. -/
structure PlM (w : World) (K1 K2 : Nat) (pu pk qu qk : Int) (v1 v2 : Value) (A L : List It) (W : World) : Prop where
  h : Hp W w.heap.size K1 ofV v1 A pu pk
  o : HeapFrom btI A 0
  r : Rh W w.heap.size K2 v2 L qu qk
  apart : ∀ k, mine K1 v1 k → ¬ mine K2 v2 k
  bel : Below w.heap.size w W
set_option maxRecDepth 100000 in
theorem PlM.grown (s : PlM w K1 K2 pu pk qu qk v1 v2 A L W) (k : Below W.heap.size W V) : PlM w K1 K2 pu pk qu qk v1 v2 A L V :=
  ⟨s.h.below k, s.o, s.r.below k, s.apart, s.bel.trans (k.mono s.bel.size)⟩
set_option maxRecDepth 100000 in
theorem PlS.first (s : PlS w K1 K2 pu pk v1 v2 A L W) (hp : Hp V w.heap.size K1 ofV u A' qu qk) (ho : HeapFrom btI A' 0) (hk : Kept (mine K1 v1) W V) (hu : Moved v1 u W.heap.size) : PlM w K1 K2 qu qk pu pk u v2 A' L V := by
  refine ⟨hp, ho, s.r.kept fun k hlt hm => hk.block k hlt fun e => s.apart k e hm, fun k hm hm2 => ?_, s.bel.trans (hk.below s.bel.size fun k hm => (s.h.in' k hm).1)⟩
  rcases hm with hm | hm
  · exact s.apart k (.inl hm) hm2
  · rcases hu with hu | hu
    · exact s.apart k (.inr (by rw [hm, hu])) hm2
    · have := hu k hm.symm
      have := (s.r.in' k hm2).2
      omega
set_option maxRecDepth 100000 in
theorem PlM.second (s : PlM w K1 K2 qu qk pu pk v1 v2 A L W) (hp : Rh V w.heap.size K2 u L' qu qk) (hpm : A.Perm L') (hk : Kept (mine K2 v2) W V) (hu : Moved v2 u W.heap.size) : PlS w K1 K2 qu qk v1 u A L' V := by
  refine ⟨s.h.kept fun k hlt hm => hk.block k hlt fun e => s.apart k hm e, s.o, hp, hpm, fun k hm hm2 => ?_, s.bel.trans (hk.below s.bel.size fun k hm => (s.r.in' k hm).1)⟩
  rcases hm2 with hm2 | hm2
  · exact s.apart k hm (.inl hm2)
  · rcases hu with hu | hu
    · exact s.apart k hm (.inr (by rw [hm2, hu]))
    · have := hu k hm2.symm
      have := (s.h.in' k hm).2
      omega
set_option maxRecDepth 100000 in
/-- What is on top is the greatest. -/
theorem top_most {a : It} {t L : List It} (h : HeapFrom btI (a :: t) 0) (hp : (a :: t).Perm L) : mostL L = a.1 ∧ someL L = true ∧ a ∈ L ∧ (L.erase a).Perm t := by
  have hb : ∀ y ∈ a :: t, y.1 ≤ a.1 := fun y hy => by
    have := heap_best btI_ranks h (by simp) y hy
    simp only [btI, decide_eq_false_iff_not, List.getElem_cons_zero] at this
    omega
  have ha : a ∈ L := hp.mem_iff.1 (by simp)
  have hne : L ≠ [] := by rintro rfl; simp at ha
  obtain ⟨x, hx, e⟩ := mostL_in hne
  have h1 := hb x (hp.mem_iff.2 hx)
  have h2 := mostL_all ha
  refine ⟨by omega, by cases L with | nil => exact absurd rfl hne | cons _ _ => rfl, ha, ?_⟩
  exact ((List.perm_cons_erase ha).symm.trans hp.symm).cons_inv
set_option maxRecDepth 100000 in
theorem none_most {L : List It} (hp : ([] : List It).Perm L) : L = [] := hp.nil_eq.symm
end Go.Proofs.Ytnonkhnajloloaa
