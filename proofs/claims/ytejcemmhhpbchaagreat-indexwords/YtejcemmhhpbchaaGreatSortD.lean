/- Changes sorted. -/
import Derived.Test.YtejcemmhhpbchaaGreatSortC
import Derived.Sort.OwnSorted
namespace Go.Proofs.YtejcemmhhpbchaaGreat
open Go.RowKit Go.Shelf Go.Lib

instance pbDec (p q : Int × Int) : Decidable (pb p q) := by unfold pb; infer_instance
set_option maxRecDepth 100000 in
theorem cfC_neg (x y : Chg) : cfC x y < 0 ↔ pb x.1 y.1 := by
  unfold cfC orI ccmpI pb
  repeat' split
  all_goals omega
set_option maxRecDepth 100000 in
theorem ltC (x y : Chg) : ltOf cfC x y = decide (pb x.1 y.1) := by
  unfold ltOf
  exact decide_eq_decide.2 (cfC_neg x y)
set_option maxRecDepth 100000 in
theorem swoC : Sort.SWO (ltOf cfC) where
  irrefl x := by rw [ltC]; exact decide_eq_false (pb_irrefl _)
  trans x y z h k := by
    rw [ltC] at *
    exact decide_eq_true (pb_trans (of_decide_eq_true h) (of_decide_eq_true k))
  ntrans x y z h k := by
    rw [ltC] at *
    have h1 := of_decide_eq_false h
    have h2 := of_decide_eq_false k
    refine decide_eq_false fun h3 => ?_
    by_cases e : x.1 = y.1
    · rw [← e] at h2; exact h2 h3
    · rcases pb_total e with h4 | h4
      · exact h1 h4
      · exact h2 (pb_trans h4 h3)
set_option maxRecDepth 100000 in
theorem cmpLaysC (blk off size : Nat) (w : World) : CmpLays Tryz.prog 59 #[] chgE.enc 3 cfC blk off size w := fun _ _ _ _ x y => cclosure_any x y _
set_option maxRecDepth 100000 in
theorem flat_ecells (L : List Chg) : Sort.flatK chgE.enc 3 L.toArray = (ecells chgE L).toArray := by
  have hel := ecells_len (R := chgE) L
  change (ecells chgE L).length = L.length * 3 at hel
  refine Array.ext (by simp [hel]) fun t h1 h2 => ?_
  have ht : t < L.length * 3 := by simpa using h1
  have h3 := Sort.get_flatK chgE.enc 3 L.toArray t (by simpa using ht)
  rw [getElem!_pos _ t h1] at h3
  rw [h3]
  have hq : t / 3 < L.length := by omega
  have k1 := ecells_at (R := chgE) L (j := t / 3) hq (i := t % 3) (Nat.mod_lt _ (by decide))
  change (ecells chgE L)[t / 3 * 3 + t % 3]? = _ at k1
  rw [show t / 3 * 3 + t % 3 = t by omega] at k1
  have e0 : L.toArray[t / 3]! = L[t / 3] := by rw [getElem!_pos _ _ (by simp; omega)]; simp
  rw [e0]
  have h2' : t < (ecells chgE L).length := by simpa using h2
  have e1 : (ecells chgE L).toArray[t] = (ecells chgE L)[t] := by simp
  rw [e1]
  rw [List.getElem?_eq_getElem h2'] at k1
  have hm : t % 3 < (chgE.enc L[t / 3]).length := by rw [chgE.len]; exact Nat.mod_lt _ (by decide)
  rw [List.getElem?_eq_getElem hm] at k1
  rw [Option.some.inj k1]
  first | rw [getElem!_pos _ _ hm] | simp [hm]
set_option maxRecDepth 100000 in
theorem holdsC {w : World} {g : Nat} {cur : Array Value} {M : List Chg} (hb : w.heap[g]? = some (.cells cur 101 (0, 0))) (ht : cur.toList.take (M.length * 3) = ecells chgE M) : Sort.HoldsK chgE.enc 3 w g 0 M.toArray := by
  have hel := ecells_len (R := chgE) M
  change (ecells chgE M).length = M.length * 3 at hel
  unfold Sort.HoldsK
  rw [flat_ecells]
  intro j hj
  have hj' : j < M.length * 3 := by rw [← hel]; simpa using hj
  have hj2 : j < (ecells chgE M).length := by simpa using hj
  refine ⟨?_, Lib.frozen_of_heap hb _⟩
  rw [Nat.zero_add, cell_of_row w g j cur 101 (0, 0) hb]
  have h1 : (cur.toList.take (M.length * 3))[j]? = (ecells chgE M)[j]? := by rw [ht]
  rw [List.getElem?_take_of_lt hj'] at h1
  rw [← Array.getElem?_toList, h1, getElem!_pos _ j hj, List.getElem?_eq_getElem hj2]
  simp
set_option maxRecDepth 100000 in
theorem take_putC {cur : Array Value} {L : List Chg} (h : L.length * 3 ≤ cur.size) : (Sort.putCells id 0 (ecells chgE L).toArray cur).toList.take (L.length * 3) = ecells chgE L := by
  have hwl := ecells_len (R := chgE) L
  change (ecells chgE L).length = L.length * 3 at hwl
  apply List.ext_getElem?
  intro j
  by_cases hj : j < L.length * 3
  · rw [List.getElem?_take_of_lt hj, Array.getElem?_toList]
    have hj2 : j < (ecells chgE L).length := by omega
    simp [Sort.putCells, hj2, show j < cur.size by omega]
  · rw [List.getElem?_take_eq_none (by omega), List.getElem?_eq_none (by omega)]
set_option maxRecDepth 100000 in
theorem heap_sortedC {w : World} {g n : Nat} {os : Array Obj} {cur : Array Value} {e : TypeId} {fr : Nat × Nat} (d : Array Value) (hb : w.heap[g]? = some (.cells cur e fr)) :
    (Sort.grow (Sort.putRow id (Sort.ahead w n) g 0 d) os).heap[g]? = some (.cells (Sort.putCells id 0 d cur) e fr) := by
  have hg : g < w.heap.size := (Array.getElem?_eq_some_iff.1 hb).1
  rw [Sort.heap_grow_old _ _ (by simpa using hg)]
  simp [Sort.putRow, Sort.mapBlock, Sort.ahead, Array.getElem?_modify, hb, Sort.onCells]
set_option maxRecDepth 100000 in
theorem grown_sortedC {w : World} {g n : Nat} {os : Array Obj} (d : Array Value) : w.grownBy (Sort.grow (Sort.putRow id (Sort.ahead w n) g 0 d) os) (some g) := by
  refine ⟨rfl, rfl, rfl, by simp, fun k hk hne => ?_⟩
  rw [Sort.heap_grow_old _ _ (by simpa using hk)]
  have : g ≠ k := fun e => hne (by rw [e])
  simp [Sort.putRow, Sort.mapBlock, Sort.ahead, Array.getElem?_modify, this]
set_option maxRecDepth 100000 in
/-- Sorted, no pair twice: it rises. -/
theorem sorted_rises {M : List Chg} {d' : Array Chg} (hn : M.Pairwise fun x y => x.1 ≠ y.1) (h1 : Sort.PermIn 0 M.toArray.size M.toArray d') (h2 : Sort.SortedIn (ltOf cfC) 0 M.toArray.size d') : d'.toList.Perm M ∧ d'.toList.Pairwise fun x y => pb x.1 y.1 := by
  obtain ⟨hs, _, hq⟩ := h1
  have e1 : d'.extract 0 M.toArray.size = d' := by rw [← hs]; simp
  have e2 : M.toArray.extract 0 M.toArray.size = M.toArray := by simp
  rw [e1, e2] at hq
  have hq' : d'.toList.Perm M := hq.trans (by simp)
  have hn' : d'.toList.Pairwise fun x y => x.1 ≠ y.1 := (hq'.pairwise_iff (fun {a b} h => fun e => h e.symm)).2 hn
  refine ⟨hq', List.pairwise_iff_getElem.2 fun i j hi hj hij => ?_⟩
  have hj' : j < d'.size := by simpa using hj
  have hi' : i < d'.size := by simpa using hi
  have h3 := h2 i j (by omega) hij (by omega)
  rw [ltC, getElem!_pos d' j hj', getElem!_pos d' i hi'] at h3
  have h4 := of_decide_eq_false h3
  have h5 := List.pairwise_iff_getElem.1 hn' i j hi hj hij
  simp only [Array.getElem_toList] at h5 ⊢
  exact (pb_total h5).resolve_right h4
set_option maxRecDepth 100000 in
/-- Sorted: the same row holds a list that rises. -/
theorem csort_any (v : Value) (M : List Chg) (w : World) (base : Nat) (h : ownE chgE w base v M) (hn : M.Pairwise fun x y => x.1 ≠ y.1) (hl : M.length ≤ 1048576) :
    Calls Tryz.prog 58 #[v, .func (.func 59) #[] #[]] w fun e w' => e = .returned (.tuple #[]) ∧ ∃ L, ownE chgE w' base v L ∧ L.Perm M ∧ (L.Pairwise fun x y => pb x.1 y.1) ∧ w.grownBy w' v.ownBlock := by
  by_cases h0 : M.length = 0
  · obtain rfl : M = [] := List.eq_nil_of_length_eq_zero h0
    obtain ⟨a, cap, rfl, _⟩ := h.form
    refine (AnyF.slices_SortFunc_none sortLaysC a cap (.func (.func 59) #[] #[]) w).mono ?_
    rintro e w' ⟨rfl, rfl⟩
    exact ⟨rfl, [], h, List.Perm.refl _, List.Pairwise.nil, ⟨rfl, rfl, rfl, Nat.le_refl _, fun _ _ _ => rfl⟩⟩
  · rcases h.2 with ⟨_, h1⟩ | ⟨g, cap, cur, rfl, hbase, hb, h1, h2, h3, h4⟩
    · omega
    · have eg : ∀ args w, (callFunc 59 args).run Tryz.prog w = .ok (.enter 59 args) w := enters_of Tryz.func59 (by kernel_rfl) rfl
      have hcon := AnyQ.slices_SortFunc sortLaysC 3 (fun w => by kernel_rfl) (fun w => by kernel_rfl) chgE.enc (fun _ => rfl) (fun x v hv => chgE.one x v hv) cfC swoC 59 #[] g 0 cap M.toArray w eg (cmpLaysC g 0 M.toArray.size w) (holdsC hb h4) (Array.getElem?_eq_some_iff.1 hb).1 (by simp; omega)
      have es : M.toArray.size = M.length := by simp
      change Calls Tryz.prog 58 #[.slice (some ⟨g, 0, none⟩) M.toArray.size cap, _] _ _ at hcon
      refine (es ▸ hcon).mono ?_
      rintro e w' ⟨rfl, d', n, os, hperm, hsort, rfl⟩
      obtain ⟨hp, hr⟩ := sorted_rises hn (by rw [es]; exact hperm) (by rw [es]; exact hsort)
      have hlen := hp.length_eq
      obtain ⟨L, rfl⟩ : ∃ L : List Chg, d' = L.toArray := ⟨d'.toList, by simp⟩
      simp only at hp hr hlen
      unfold sortWorldK Sort.putRowK
      rw [flat_ecells]
      change cur.size = cap * 3 at h3
      refine ⟨rfl, L, ⟨ecells_len L, .inr ⟨g, cap, _, by rw [hlen], hbase, heap_sortedC _ hb, by omega, h2, by show _ = cap * 3; simpa [Sort.putCells] using h3, take_putC (by omega)⟩⟩, hp, hr, grown_sortedC _⟩
end Go.Proofs.YtejcemmhhpbchaaGreat
