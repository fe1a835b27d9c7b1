/- Pairs sorted. -/
import Derived.Test.YtejcemmhhpbchaaGreatSortPV
import Derived.Sort.OwnSorted
namespace Go.Proofs.YtejcemmhhpbchaaGreat
open Go.RowKit Go.Shelf Go.Lib

set_option maxRecDepth 100000 in
theorem cfP_neg (x y : (Int × Int)) : cfP x y < 0 ↔ pb x y := by
  unfold cfP orI ccmpI pb
  repeat' split
  all_goals omega
set_option maxRecDepth 100000 in
theorem ltP (x y : (Int × Int)) : ltOf cfP x y = decide (pb x y) := by
  unfold ltOf
  exact decide_eq_decide.2 (cfP_neg x y)
set_option maxRecDepth 100000 in
theorem swoP : Sort.SWO (ltOf cfP) where
  irrefl x := by rw [ltP]; exact decide_eq_false (pb_irrefl _)
  trans x y z h k := by
    rw [ltP] at *
    exact decide_eq_true (pb_trans (of_decide_eq_true h) (of_decide_eq_true k))
  ntrans x y z h k := by
    rw [ltP] at *
    have h1 := of_decide_eq_false h
    have h2 := of_decide_eq_false k
    refine decide_eq_false fun h3 => ?_
    by_cases e : x = y
    · rw [← e] at h2; exact h2 h3
    · rcases pb_total e with h4 | h4
      · exact h1 h4
      · exact h2 (pb_trans h4 h3)
set_option maxRecDepth 100000 in
theorem cmpLaysP (blk off size : Nat) (w : World) : CmpLays Tryz.prog 69 #[] pairE.enc 2 cfP blk off size w := fun _ _ _ _ x y => prclosure_any x y _
set_option maxRecDepth 100000 in
theorem flat_pcells (L : List (Int × Int)) : Sort.flatK pairE.enc 2 L.toArray = (ecells pairE L).toArray := by
  have hel := ecells_len (R := pairE) L
  change (ecells pairE L).length = L.length * 2 at hel
  refine Array.ext (by simp [hel]) fun t h1 h2 => ?_
  have ht : t < L.length * 2 := by simpa using h1
  have h3 := Sort.get_flatK pairE.enc 2 L.toArray t (by simpa using ht)
  rw [getElem!_pos _ t h1] at h3
  rw [h3]
  have hq : t / 2 < L.length := by omega
  have k1 := ecells_at (R := pairE) L (j := t / 2) hq (i := t % 2) (Nat.mod_lt _ (by decide))
  change (ecells pairE L)[t / 2 * 2 + t % 2]? = _ at k1
  rw [show t / 2 * 2 + t % 2 = t by omega] at k1
  have e0 : L.toArray[t / 2]! = L[t / 2] := by rw [getElem!_pos _ _ (by simp; omega)]; simp
  rw [e0]
  have h2' : t < (ecells pairE L).length := by simpa using h2
  have e1 : (ecells pairE L).toArray[t] = (ecells pairE L)[t] := by simp
  rw [e1]
  rw [List.getElem?_eq_getElem h2'] at k1
  have hm : t % 2 < (pairE.enc L[t / 2]).length := by rw [pairE.len]; exact Nat.mod_lt _ (by decide)
  rw [List.getElem?_eq_getElem hm] at k1
  rw [Option.some.inj k1]
  first | rw [getElem!_pos _ _ hm] | simp [hm]
set_option maxRecDepth 100000 in
theorem holdsP {w : World} {g : Nat} {cur : Array Value} {M : List (Int × Int)} (hb : w.heap[g]? = some (.cells cur 37 (0, 0))) (ht : cur.toList.take (M.length * 2) = ecells pairE M) : Sort.HoldsK pairE.enc 2 w g 0 M.toArray := by
  have hel := ecells_len (R := pairE) M
  change (ecells pairE M).length = M.length * 2 at hel
  unfold Sort.HoldsK
  rw [flat_pcells]
  intro j hj
  have hj' : j < M.length * 2 := by rw [← hel]; simpa using hj
  have hj2 : j < (ecells pairE M).length := by simpa using hj
  refine ⟨?_, Lib.frozen_of_heap hb _⟩
  rw [Nat.zero_add, cell_of_row w g j cur 37 (0, 0) hb]
  have h1 : (cur.toList.take (M.length * 2))[j]? = (ecells pairE M)[j]? := by rw [ht]
  rw [List.getElem?_take_of_lt hj'] at h1
  rw [← Array.getElem?_toList, h1, getElem!_pos _ j hj, List.getElem?_eq_getElem hj2]
  simp
set_option maxRecDepth 100000 in
theorem take_putP {cur : Array Value} {L : List (Int × Int)} (h : L.length * 2 ≤ cur.size) : (Sort.putCells id 0 (ecells pairE L).toArray cur).toList.take (L.length * 2) = ecells pairE L := by
  have hwl := ecells_len (R := pairE) L
  change (ecells pairE L).length = L.length * 2 at hwl
  apply List.ext_getElem?
  intro j
  by_cases hj : j < L.length * 2
  · rw [List.getElem?_take_of_lt hj, Array.getElem?_toList]
    have hj2 : j < (ecells pairE L).length := by omega
    simp [Sort.putCells, hj2, show j < cur.size by omega]
  · rw [List.getElem?_take_eq_none (by omega), List.getElem?_eq_none (by omega)]
set_option maxRecDepth 100000 in
theorem heap_sortedP {w : World} {g n : Nat} {os : Array Obj} {cur : Array Value} {e : TypeId} {fr : Nat × Nat} (d : Array Value) (hb : w.heap[g]? = some (.cells cur e fr)) :
    (Sort.grow (Sort.putRow id (Sort.ahead w n) g 0 d) os).heap[g]? = some (.cells (Sort.putCells id 0 d cur) e fr) := by
  have hg : g < w.heap.size := (Array.getElem?_eq_some_iff.1 hb).1
  rw [Sort.heap_grow_old _ _ (by simpa using hg)]
  simp [Sort.putRow, Sort.mapBlock, Sort.ahead, Array.getElem?_modify, hb, Sort.onCells]
set_option maxRecDepth 100000 in
theorem grown_sortedP {w : World} {g n : Nat} {os : Array Obj} (d : Array Value) : w.grownBy (Sort.grow (Sort.putRow id (Sort.ahead w n) g 0 d) os) (some g) := by
  refine ⟨rfl, rfl, rfl, by simp, fun k hk hne => ?_⟩
  rw [Sort.heap_grow_old _ _ (by simpa using hk)]
  have : g ≠ k := fun e => hne (by rw [e])
  simp [Sort.putRow, Sort.mapBlock, Sort.ahead, Array.getElem?_modify, this]
set_option maxRecDepth 100000 in
/-- Sorted, no pair twice: it rises. -/
theorem psorted_rises {M : List (Int × Int)} {d' : Array (Int × Int)} (hn : M.Pairwise fun x y => x ≠ y) (h1 : Sort.PermIn 0 M.toArray.size M.toArray d') (h2 : Sort.SortedIn (ltOf cfP) 0 M.toArray.size d') : d'.toList.Perm M ∧ d'.toList.Pairwise fun x y => pb x y := by
  obtain ⟨hs, _, hq⟩ := h1
  have e1 : d'.extract 0 M.toArray.size = d' := by rw [← hs]; simp
  have e2 : M.toArray.extract 0 M.toArray.size = M.toArray := by simp
  rw [e1, e2] at hq
  have hq' : d'.toList.Perm M := hq.trans (by simp)
  have hn' : d'.toList.Pairwise fun x y => x ≠ y := (hq'.pairwise_iff (fun {a b} h => fun e => h e.symm)).2 hn
  refine ⟨hq', List.pairwise_iff_getElem.2 fun i j hi hj hij => ?_⟩
  have hj' : j < d'.size := by simpa using hj
  have hi' : i < d'.size := by simpa using hi
  have h3 := h2 i j (by omega) hij (by omega)
  rw [ltP, getElem!_pos d' j hj', getElem!_pos d' i hi'] at h3
  have h4 := of_decide_eq_false h3
  have h5 := List.pairwise_iff_getElem.1 hn' i j hi hj hij
  simp only [Array.getElem_toList] at h5 ⊢
  exact (pb_total h5).resolve_right h4
set_option maxRecDepth 100000 in
/-- Sorted: the same row holds a list that rises. -/
theorem prsort_any (v : Value) (M : List (Int × Int)) (w : World) (base : Nat) (h : ownE pairE w base v M) (hn : M.Pairwise fun x y => x ≠ y) (hl : M.length ≤ 1048576) :
    Calls Tryz.prog 68 #[v, .func (.func 69) #[] #[]] w fun e w' => e = .returned (.tuple #[]) ∧ ∃ L, ownE pairE w' base v L ∧ L.Perm M ∧ (L.Pairwise fun x y => pb x y) ∧ w.grownBy w' v.ownBlock := by
  by_cases h0 : M.length = 0
  · obtain rfl : M = [] := List.eq_nil_of_length_eq_zero h0
    obtain ⟨a, cap, rfl, _⟩ := h.form
    refine (AnyF.slices_SortFunc_none sortLaysP a cap (.func (.func 69) #[] #[]) w).mono ?_
    rintro e w' ⟨rfl, rfl⟩
    exact ⟨rfl, [], h, List.Perm.refl _, List.Pairwise.nil, ⟨rfl, rfl, rfl, Nat.le_refl _, fun _ _ _ => rfl⟩⟩
  · rcases h.2 with ⟨_, h1⟩ | ⟨g, cap, cur, rfl, hbase, hb, h1, h2, h3, h4⟩
    · omega
    · have eg : ∀ args w, (callFunc 69 args).run Tryz.prog w = .ok (.enter 69 args) w := enters_of Tryz.func69 (by kernel_rfl) rfl
      have hcon := AnyQ.slices_SortFunc sortLaysP 2 (fun w => by kernel_rfl) (fun w => by kernel_rfl) pairE.enc (fun _ => rfl) (fun x v hv => pairE.one x v hv) cfP swoP 69 #[] g 0 cap M.toArray w eg (cmpLaysP g 0 M.toArray.size w) (holdsP hb h4) (Array.getElem?_eq_some_iff.1 hb).1 (by simp; omega)
      have es : M.toArray.size = M.length := by simp
      change Calls Tryz.prog 68 #[.slice (some ⟨g, 0, none⟩) M.toArray.size cap, _] _ _ at hcon
      refine (es ▸ hcon).mono ?_
      rintro e w' ⟨rfl, d', n, os, hperm, hsort, rfl⟩
      obtain ⟨hp, hr⟩ := psorted_rises hn (by rw [es]; exact hperm) (by rw [es]; exact hsort)
      have hlen := hp.length_eq
      obtain ⟨L, rfl⟩ : ∃ L : List (Int × Int), d' = L.toArray := ⟨d'.toList, by simp⟩
      simp only at hp hr hlen
      unfold sortWorldK Sort.putRowK
      rw [flat_pcells]
      change cur.size = cap * 2 at h3
      refine ⟨rfl, L, ⟨ecells_len L, .inr ⟨g, cap, _, by rw [hlen], hbase, heap_sortedP _ hb, by omega, h2, by show _ = cap * 2; simpa [Sort.putCells] using h3, take_putP (by omega)⟩⟩, hp, hr, grown_sortedP _⟩
end Go.Proofs.YtejcemmhhpbchaaGreat
