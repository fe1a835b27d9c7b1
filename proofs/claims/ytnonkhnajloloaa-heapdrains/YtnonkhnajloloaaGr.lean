/- What only lays blocks. -/
import Derived.Test.YtnonkhnajloloaaMem
import Derived.Shelf.SlSortCmp.QuietGrown
namespace Go.Proofs.Ytnonkhnajloloaa
open Go.RowKit Go.Shelf
open Go.Sort (grow grow_empty grow_grow alloc_eq_grow heap_grow_old)

/-- w' is w, with some draws, and with blocks laid behind it. -/
def Grown (w w' : World) : Prop := ∃ q os, w' = grow (w.drewN q) os
set_option maxRecDepth 100000 in
theorem Grown.refl (w : World) : Grown w w := ⟨0, #[], by rw [grow_empty]; rfl⟩
set_option maxRecDepth 100000 in
theorem Grown.trans {a b c : World} (h : Grown a b) (k : Grown b c) : Grown a c := by
  obtain ⟨q, os, rfl⟩ := h
  obtain ⟨q2, os2, rfl⟩ := k
  exact ⟨q + q2, os ++ os2, by show grow (grow ((a.drewN q).drewN q2) os) os2 = _; rw [grow_grow, World.drewN_drewN]⟩
set_option maxRecDepth 100000 in
theorem Grown.alloc {a b : World} (h : Grown a b) (o : Obj) : Grown a (b.alloc o) := h.trans ⟨0, #[o], by rw [alloc_eq_grow]; rfl⟩
set_option maxRecDepth 100000 in
theorem Grown.of (w : World) (n : Nat) (os : Array Obj) : Grown w (grow (w.drewN n) os) := ⟨n, os, rfl⟩
set_option maxRecDepth 100000 in
theorem Grown.drewN {a b : World} (h : Grown a b) (n : Nat) : Grown a (b.drewN n) := h.trans ⟨n, #[], by rw [grow_empty]⟩
set_option maxRecDepth 100000 in
theorem Grown.drew {a b : World} (h : Grown a b) : Grown a b.drew := h.drewN 1
set_option maxRecDepth 100000 in
theorem Grown.below {a b : World} (h : Grown a b) : Below a.heap.size a b := by
  obtain ⟨q, os, rfl⟩ := h
  exact ⟨rfl, rfl, rfl, by simp [World.drewN], fun k hk => heap_grow_old _ _ hk⟩
end Go.Proofs.Ytnonkhnajloloaa
