/- Words sorted by their texts. -/
import Derived.Test.YtikaclfcajnddaaSortW
import Derived.Sort.OwnSorted
namespace Go.Proofs.Ytikaclfcajnddaa
open Go.RowKit Go.Shelf Go.Lib

def encW (x : ByteArray × Int) : List Value := [.string x.1, .int .i64 x.2]
def cfW (x y : ByteArray × Int) : Int := Lib.compareBytes (bs x.1) (bs y.1)
theorem ltW (x y : ByteArray × Int) : ltOf cfW x y = ahead x.1 y.1 := before_cmp _ _
theorem swoW : Sort.SWO (ltOf cfW) where
  irrefl x := by rw [ltW, ahead_irrefl]
  trans x y z h k := by rw [ltW] at *; exact ahead_trans h k
  ntrans x y z h k := by
    rw [ltW] at *
    cases e : ahead x.1 z.1
    · rfl
    · by_cases e2 : y.1 = x.1
      · rw [← e2, k] at e; cases e
      · have h3 : ahead y.1 x.1 = true := (ahead_total e2).resolve_right (by rw [h]; simp)
        rw [ahead_trans h3 e] at k; cases k
set_option maxHeartbeats 1000000 in
theorem closure_any (x y : ByteArray × Int) (W : World) : Calls Try.prog 33 #[.agg #[.string x.1, .int .i64 x.2], .agg #[.string y.1, .int .i64 y.2]] W fun e w' => e = .returned (.int .i64 (cfW x y)) ∧ ∃ q os', w' = Sort.grow (W.drewN q) os' := by
  have hcon := fun W' => compare_any x.1 y.1 W'
  unfold cfW
  generalize Lib.compareBytes (bs x.1) (bs y.1) = r at hcon ⊢
  go_enter Try.func33, Try.ntmps33
  go_wp2_with (go_at_call 34; refine (hcon _).mono ?_; rintro e w' ⟨rfl, rfl⟩)
  go_ret
  exact ⟨rfl, 0, _, by rw [Sort.alloc_eq_grow, Sort.alloc_eq_grow, Sort.grow_grow]; rfl⟩
theorem cmpLaysW (blk off size : Nat) (w : World) : CmpLays Try.prog 33 #[] encW 2 cfW blk off size w := fun _ _ _ _ x y => closure_any x y _
theorem flat_wcells (L : Bag) : Sort.flatK encW 2 L.toArray = (wcells L).toArray := by
  refine Array.ext (by simp [wcells_len]) fun t h1 h2 => ?_
  have ht : t < L.length * 2 := by simpa using h1
  have h3 := Sort.get_flatK encW 2 L.toArray t (by simpa using ht)
  rw [getElem!_pos _ t h1] at h3
  rw [h3]
  obtain ⟨k1, k2⟩ := wcells_at L (j := t / 2) (by omega)
  have e0 : L.toArray[t / 2]! = L[t / 2] := by rw [getElem!_pos _ _ (by simp; omega)]; simp
  rw [e0]
  have h2' : t < (wcells L).length := by simpa using h2
  have e1 : (wcells L).toArray[t] = (wcells L)[t] := by simp
  rw [e1]
  rcases Nat.mod_two_eq_zero_or_one t with hm | hm
  · have ei : t / 2 * 2 = t := by omega
    rw [ei, List.getElem?_eq_getElem h2'] at k1
    rw [hm, Option.some.inj k1]
    rfl
  · have ei : t / 2 * 2 + 1 = t := by omega
    rw [ei, List.getElem?_eq_getElem h2'] at k2
    rw [hm, Option.some.inj k2]
    rfl
theorem holdsW {w : World} {g : Nat} {cur : Array Value} {M : Bag} (hb : w.heap[g]? = some (.cells cur 36 (0, 0))) (ht : cur.toList.take (M.length * 2) = wcells M) : Sort.HoldsK encW 2 w g 0 M.toArray := by
  unfold Sort.HoldsK
  rw [flat_wcells]
  intro j hj
  have hj' : j < M.length * 2 := by rw [← wcells_len]; simpa using hj
  have hj2 : j < (wcells M).length := by simpa using hj
  refine ⟨?_, Lib.frozen_of_heap hb _⟩
  rw [Nat.zero_add, cell_of_row w g j cur 36 (0, 0) hb]
  have h1 : (cur.toList.take (M.length * 2))[j]? = (wcells M)[j]? := by rw [ht]
  rw [List.getElem?_take_of_lt hj'] at h1
  rw [← Array.getElem?_toList, h1, getElem!_pos _ j hj, List.getElem?_eq_getElem hj2]
  simp
theorem take_put {cur : Array Value} {L : Bag} (h : L.length * 2 ≤ cur.size) : (Sort.putCells id 0 (wcells L).toArray cur).toList.take (L.length * 2) = wcells L := by
  apply List.ext_getElem?
  intro j
  have hwl := wcells_len L
  by_cases hj : j < L.length * 2
  · rw [List.getElem?_take_of_lt hj, Array.getElem?_toList]
    have hj2 : j < (wcells L).length := by omega
    simp [Sort.putCells, hj2, show j < cur.size by omega]
  · rw [List.getElem?_take_eq_none (by omega), List.getElem?_eq_none (by omega)]
theorem heap_sortedW {w : World} {g n : Nat} {os : Array Obj} {cur : Array Value} {e : TypeId} {fr : Nat × Nat} (d : Array Value) (hb : w.heap[g]? = some (.cells cur e fr)) :
    (Sort.grow (Sort.putRow id (Sort.ahead w n) g 0 d) os).heap[g]? = some (.cells (Sort.putCells id 0 d cur) e fr) := by
  have hg : g < w.heap.size := (Array.getElem?_eq_some_iff.1 hb).1
  rw [Sort.heap_grow_old _ _ (by simpa using hg)]
  simp [Sort.putRow, Sort.mapBlock, Sort.ahead, Array.getElem?_modify, hb, Sort.onCells]
theorem grown_sortedW {w : World} {g n : Nat} {os : Array Obj} (d : Array Value) : w.grownBy (Sort.grow (Sort.putRow id (Sort.ahead w n) g 0 d) os) (some g) := by
  refine ⟨rfl, rfl, rfl, by simp, fun k hk hne => ?_⟩
  rw [Sort.heap_grow_old _ _ (by simpa using hk)]
  have : g ≠ k := fun e => hne (by rw [e])
  simp [Sort.putRow, Sort.mapBlock, Sort.ahead, Array.getElem?_modify, this]
theorem sorted_is {L M : Bag} {d' : Array (ByteArray × Int)} (hr : Rising L) (hp : M.Perm L) (h1 : Sort.PermIn 0 M.toArray.size M.toArray d') (h2 : Sort.SortedIn (ltOf cfW) 0 M.toArray.size d') : d' = L.toArray := by
  obtain ⟨hs, _, hq⟩ := h1
  have e1 : d'.extract 0 M.toArray.size = d' := by rw [← hs]; simp
  have e2 : M.toArray.extract 0 M.toArray.size = M.toArray := by simp
  rw [e1, e2] at hq
  have hq' : d'.toList.Perm L := hq.trans (by simpa using hp)
  have : d'.toList = L := by
    refine sorted_rising hr hq' (List.pairwise_iff_getElem.2 fun i j hi hj hij => ?_)
    have hj' : j < d'.size := by simpa using hj
    have hi' : i < d'.size := by simpa using hi
    have := h2 i j (by omega) hij (by omega)
    rw [ltW, getElem!_pos d' j hj', getElem!_pos d' i hi'] at this
    simpa using this
  rw [← this]
/-- Sorted: the same row holds the list that rises. -/
theorem sort_any (v : Value) (L M : Bag) (w : World) (base : Nat) (h : ownW w base v M) (hr : Rising L) (hp : M.Perm L) (hl : M.length ≤ 1048576) :
    Calls Try.prog 32 #[v, .func (.func 33) #[] #[]] w fun e w' => e = .returned (.tuple #[]) ∧ ownW w' base v L ∧ w.grownBy w' v.ownBlock := by
  by_cases h0 : M.length = 0
  · obtain rfl : M = [] := List.eq_nil_of_length_eq_zero h0
    obtain rfl : L = [] := hp.nil_eq.symm
    obtain ⟨a, cap, rfl, _⟩ := h.form
    refine (AnyF.slices_SortFunc_none sortLays a cap (.func (.func 33) #[] #[]) w).mono ?_
    rintro e w' ⟨rfl, rfl⟩
    exact ⟨rfl, h, ⟨rfl, rfl, rfl, Nat.le_refl _, fun _ _ _ => rfl⟩⟩
  · rcases h.2 with ⟨_, h1⟩ | ⟨g, cap, cur, rfl, hbase, hb, h1, h2, h3, h4⟩
    · omega
    · have eg : ∀ args w, (callFunc 33 args).run Try.prog w = .ok (.enter 33 args) w := enters_of Try.func33 (by kernel_rfl) rfl
      have hcon := AnyQ.slices_SortFunc sortLays 2 (fun w => by kernel_rfl) (fun w => by kernel_rfl) encW (fun _ => rfl) (fun x v hv => by simp [encW] at hv; rcases hv with rfl | rfl <;> rfl) cfW swoW 33 #[] g 0 cap M.toArray w eg (cmpLaysW g 0 M.toArray.size w) (holdsW hb h4) (Array.getElem?_eq_some_iff.1 hb).1 (by simp; omega)
      have es : M.toArray.size = M.length := by simp
      change Calls Try.prog 32 #[.slice (some ⟨g, 0, none⟩) M.toArray.size cap, _] _ _ at hcon
      refine (es ▸ hcon).mono ?_
      rintro e w' ⟨rfl, d', n, os, hperm, hsort, rfl⟩
      have ed := sorted_is hr hp (by rw [es]; exact hperm) (by rw [es]; exact hsort)
      subst ed
      have hlen := hp.length_eq
      unfold sortWorldK Sort.putRowK
      rw [flat_wcells]
      refine ⟨rfl, ⟨wcells_len L, .inr ⟨g, cap, _, by rw [hlen], hbase, heap_sortedW _ hb, by omega, h2, by simpa [Sort.putCells] using h3, take_put (by omega)⟩⟩, grown_sortedW _⟩
end Go.Proofs.Ytikaclfcajnddaa
