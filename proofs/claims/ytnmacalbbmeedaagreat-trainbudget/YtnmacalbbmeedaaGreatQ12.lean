/- Texts in one: Chg, SortC, SortD, Ris. -/
import Derived.Test.YtnmacalbbmeedaaGreatQ11
import Derived.Shelf.SlSortCmp.QuietGrown
import Derived.Deep.RegionHeld3
import Derived.Shelf.SlSortCmp.NoneTotal
import Derived.Sort.OwnSorted
/- Changes as a row's elements; how two compare. -/
namespace Go.Proofs.YtnmacalbbmeedaaGreat
open Go.RowKit Go.Maps

def chgE : Elt Chg where
  ty := 167
  sl := 137
  n := 3
  bytes := 24
  zero := .agg #[.int .i64 0, .int .i64 0, .int .i64 0]
  enc := fun x => [.int .i64 x.1.1, .int .i64 x.1.2, .int .i64 x.2]
  under := Tryz.underlying137
  info := by kernel_rfl
  pos := by decide
  small := by decide
  zlen := by kernel_rfl
  len := fun _ => rfl
  one := fun x u hu => by
    simp only [List.mem_cons, List.not_mem_nil, or_false] at hu
    rcases hu with rfl | rfl | rfl <;> rfl
def chgV (x : Chg) : Value := .agg #[.int .i64 x.1.1, .int .i64 x.1.2, .int .i64 x.2]
/-- Below 0: x is ahead of y. -/
def cfC (x y : Chg) : Int := orI (ccmpI x.1.1 y.1.1) (ccmpI x.1.2 y.1.2)
set_option maxRecDepth 100000 in
set_option maxHeartbeats 2000000 in
theorem cclosure_any (x y : Chg) (W : World) : Calls Tryz.prog 111 #[chgV x, chgV y] W fun e w' => e = .returned (.int .i64 (cfC x y)) ∧ ∃ q os', w' = Sort.grow (W.drewN q) os' := by
  obtain ⟨⟨a, b⟩, c⟩ := x
  obtain ⟨⟨p, q⟩, r⟩ := y
  unfold chgV cfC
  simp only
  obtain ⟨w1, hw1⟩ : ∃ w1, w1 = (W.alloc (.cells #[.int .i64 a, .int .i64 b, .int .i64 c] 167)).alloc (.cells #[.int .i64 p, .int .i64 q, .int .i64 r] 167) := ⟨_, rfl⟩
  obtain ⟨o, ho⟩ : ∃ o, o = Obj.cells #[.int .i64 (ccmpI a p), .int .i64 (ccmpI b q)] 3 (0, 0) := ⟨_, rfl⟩
  have HG : Hid (∃ q os', (w1.alloc o).drew = Sort.grow (W.drewN q) os') := Lib.hid ⟨1, _, by rw [hw1, Sort.alloc_eq_grow, Sort.alloc_eq_grow, Sort.alloc_eq_grow, Sort.grow_grow, Sort.grow_grow]; rfl⟩
  have u0 : w1.cell? ⟨W.heap.size, 0, none⟩ = some (.int .i64 a) := by rw [hw1]; simp
  have u1 : w1.cell? ⟨W.heap.size, 1, none⟩ = some (.int .i64 b) := by rw [hw1]; simp
  have v0 : w1.cell? ⟨W.heap.size + 1, 0, none⟩ = some (.int .i64 p) := by rw [hw1]; simp
  have v1 : w1.cell? ⟨W.heap.size + 1, 1, none⟩ = some (.int .i64 q) := by rw [hw1]; simp
  have cI := fun x y => ccmpI_any x y w1.drew
  have hs1 : w1.heap.size = W.heap.size + 1 + 1 := by rw [hw1]; simp
  have bb := (Below.refl w1.heap.size w1).alloc (Nat.le_refl _) o
  have x0 : (w1.alloc o).drew.cell? ⟨W.heap.size, 0, none⟩ = some (.int .i64 a) := (bb.cell (by simp; omega)).trans u0
  have x1 : (w1.alloc o).drew.cell? ⟨W.heap.size, 1, none⟩ = some (.int .i64 b) := (bb.cell (by simp; omega)).trans u1
  have y0 : (w1.alloc o).drew.cell? ⟨W.heap.size + 1, 0, none⟩ = some (.int .i64 p) := (bb.cell (by simp; omega)).trans v0
  have y1 : (w1.alloc o).drew.cell? ⟨W.heap.size + 1, 1, none⟩ = some (.int .i64 q) := (bb.cell (by simp; omega)).trans v1
  have cO := or_any (ccmpI a p) (ccmpI b q) w1.heap.size (w1.alloc o).drew (by rw [ho]; show (w1.alloc _).cell? _ = _; simp) (by rw [ho]; show (w1.alloc _).cell? _ = _; simp)
  rw [ho] at cO HG x0 x1 y0 y1
  have hw' := hw1.symm
  clear hw1 bb ho hs1
  go_enter Tryz.func111, Tryz.ntmps111
  go_wp2_with fail
  go_region_held3 (fun w' => w'.cell? ⟨W.heap.size, 0, none⟩ = some (.int .i64 a) ∧ w'.cell? ⟨W.heap.size, 1, none⟩ = some (.int .i64 b) ∧ w'.cell? ⟨W.heap.size + 1, 0, none⟩ = some (.int .i64 p) ∧ w'.cell? ⟨W.heap.size + 1, 1, none⟩ = some (.int .i64 q)) (first | exact ⟨u0, u1, v0, v1⟩ | exact ⟨x0, x1, y0, y1⟩) (first | (go_at_call 72; refine (cI _ _).mono ?_; rintro e w2 ⟨rfl, rfl⟩) | (go_at_call 71; refine cO.mono ?_; rintro e w2 ⟨rfl, rfl⟩))
  all_goals go_wp2
  all_goals go_ret
  all_goals exact ⟨rfl, HG.out⟩
end Go.Proofs.YtnmacalbbmeedaaGreat
/- The sort of changes: the library's contract, laid at this program. -/
namespace Go.Proofs.YtnmacalbbmeedaaGreat
open Go.RowKit Go.Shelf Go.Lib Go.Sort

def sortRenC : Ren where
  f := fun x => match x with
    | 6 => 110
    | 15 => 118
    | 14 => 128
    | 28 => 139
    | 29 => 140
    | 20 => 142
    | 21 => 143
    | 22 => 144
    | 23 => 145
    | 24 => 146
    | 25 => 147
    | 26 => 148
    | 27 => 149
    | 46 => 157
    | 47 => 152
    | 48 => 153
    | 49 => 158
    | 50 => 159
    | 57 => 162
    | n => n
  t := fun x => match x with
    | 22 => 137
    | 24 => 167
    | 25 => 188
    | 3 => 3
    | 39 => 194
    | 0 => 0
    | 53 => 212
    | 55 => 195
    | 4 => 4
    | 46 => 206
    | 45 => 205
    | 50 => 91
    | 5 => 5
    | 9 => 9
    | 66 => 219
    | 70 => 223
    | 76 => 228
    | 77 => 59
    | n => n
  g := fun x => x
set_option maxRecDepth 100000 in
theorem sortLaysC : SlLaysF0.n6 Tryz.prog sortRenC where
  mixed := by kernel_rfl
  f6 := ⟨Tryz.f110.name, by kernel_rfl, Tryz.func110⟩
  f15 := Tryz.func118
  f14 := ⟨Tryz.f128.name, by kernel_rfl, Tryz.func128⟩
  f28 := Tryz.func139
  f29 := Tryz.func140
  f20 := ⟨Tryz.f142.name, by kernel_rfl, Tryz.func142⟩
  f21 := ⟨Tryz.f143.name, by kernel_rfl, Tryz.func143⟩
  f22 := ⟨Tryz.f144.name, by kernel_rfl, Tryz.func144⟩
  f23 := ⟨Tryz.f145.name, by kernel_rfl, Tryz.func145⟩
  f24 := ⟨Tryz.f146.name, by kernel_rfl, Tryz.func146⟩
  f25 := ⟨Tryz.f147.name, by kernel_rfl, Tryz.func147⟩
  f26 := ⟨Tryz.f148.name, by kernel_rfl, Tryz.func148⟩
  f27 := ⟨Tryz.f149.name, by kernel_rfl, Tryz.func149⟩
  f46 := ⟨Tryz.f157.name, by kernel_rfl, Tryz.func157⟩
  f47 := Tryz.func152
  f48 := Tryz.func153
  f49 := ⟨Tryz.f158.name, by kernel_rfl, Tryz.func158⟩
  f50 := ⟨Tryz.f159.name, by kernel_rfl, Tryz.func159⟩
  f57 := ⟨Tryz.f162.name, by kernel_rfl, Tryz.func162⟩
  t22 := by kernel_rfl
  a22 := fun w => by kernel_rfl
  z22 := fun w => by kernel_rfl
  v22 := fun w => by kernel_rfl
  t25 := by kernel_rfl
  a25 := fun w => by kernel_rfl
  z25 := fun w => by kernel_rfl
  v25 := fun w => by kernel_rfl
  t3 := by kernel_rfl
  a3 := fun w => by kernel_rfl
  z3 := fun w => by kernel_rfl
  v3 := fun w => by kernel_rfl
  t39 := by kernel_rfl
  a39 := fun w => by kernel_rfl
  z39 := fun w => by kernel_rfl
  v39 := fun w => by kernel_rfl
  t0 := by kernel_rfl
  a0 := fun w => by kernel_rfl
  z0 := fun w => by kernel_rfl
  v0 := fun w => by kernel_rfl
  t53 := by kernel_rfl
  a53 := fun w => by kernel_rfl
  z53 := fun w => by kernel_rfl
  v53 := fun w => by kernel_rfl
  t55 := by kernel_rfl
  a55 := fun w => by kernel_rfl
  z55 := fun w => by kernel_rfl
  v55 := fun w => by kernel_rfl
  t4 := by kernel_rfl
  a4 := fun w => by kernel_rfl
  z4 := fun w => by kernel_rfl
  v4 := fun w => by kernel_rfl
  t46 := by kernel_rfl
  a46 := fun w => by kernel_rfl
  z46 := fun w => by kernel_rfl
  v46 := fun w => by kernel_rfl
  t45 := by kernel_rfl
  a45 := fun w => by kernel_rfl
  z45 := fun w => by kernel_rfl
  v45 := fun w => by kernel_rfl
  t50 := by kernel_rfl
  a50 := fun w => by kernel_rfl
  z50 := fun w => by kernel_rfl
  v50 := fun w => by kernel_rfl
  t5 := by kernel_rfl
  a5 := fun w => by kernel_rfl
  z5 := fun w => by kernel_rfl
  v5 := fun w => by kernel_rfl
  t9 := by kernel_rfl
  a9 := fun w => by kernel_rfl
  z9 := fun w => by kernel_rfl
  v9 := fun w => by kernel_rfl
  t66 := by kernel_rfl
  a66 := fun w => by kernel_rfl
  z66 := fun w => by kernel_rfl
  v66 := fun w => by kernel_rfl
  t70 := by kernel_rfl
  a70 := fun w => by kernel_rfl
  z70 := fun w => by kernel_rfl
  v70 := fun w => by kernel_rfl
  t76 := by kernel_rfl
  a76 := fun w => by kernel_rfl
  z76 := fun w => by kernel_rfl
  v76 := fun w => by kernel_rfl
  t77 := by kernel_rfl
  a77 := fun w => by kernel_rfl
  z77 := fun w => by kernel_rfl
  v77 := fun w => by kernel_rfl
end Go.Proofs.YtnmacalbbmeedaaGreat
/- Changes sorted. -/
namespace Go.Proofs.YtnmacalbbmeedaaGreat
open Go.RowKit Go.Shelf Go.Lib

instance pbDec (p q : Int × Int) : Decidable (pb p q) := by unfold pb; infer_instance
set_option maxRecDepth 100000 in
theorem cfC_neg (x y : Chg) : cfC x y < 0 ↔ pb x.1 y.1 := by
  unfold cfC orI ccmpI pb
  repeat' split
  all_goals omega
set_option maxRecDepth 100000 in
theorem ltC (x y : Chg) : ltOf cfC x y = decide (pb x.1 y.1) := by
  unfold ltOf
  exact decide_eq_decide.2 (cfC_neg x y)
set_option maxRecDepth 100000 in
theorem swoC : Sort.SWO (ltOf cfC) where
  irrefl x := by rw [ltC]; exact decide_eq_false (pb_irrefl _)
  trans x y z h k := by
    rw [ltC] at *
    exact decide_eq_true (pb_trans (of_decide_eq_true h) (of_decide_eq_true k))
  ntrans x y z h k := by
    rw [ltC] at *
    have h1 := of_decide_eq_false h
    have h2 := of_decide_eq_false k
    refine decide_eq_false fun h3 => ?_
    by_cases e : x.1 = y.1
    · rw [← e] at h2; exact h2 h3
    · rcases pb_total e with h4 | h4
      · exact h1 h4
      · exact h2 (pb_trans h4 h3)
set_option maxRecDepth 100000 in
theorem cmpLaysC (blk off size : Nat) (w : World) : CmpLays Tryz.prog 111 #[] chgE.enc 3 cfC blk off size w := fun _ _ _ _ x y => cclosure_any x y _
set_option maxRecDepth 100000 in
theorem flat_ecells (L : List Chg) : Sort.flatK chgE.enc 3 L.toArray = (ecells chgE L).toArray := by
  have hel := ecells_len (R := chgE) L
  change (ecells chgE L).length = L.length * 3 at hel
  refine Array.ext (by simp [hel]) fun t h1 h2 => ?_
  have ht : t < L.length * 3 := by simpa using h1
  have h3 := Sort.get_flatK chgE.enc 3 L.toArray t (by simpa using ht)
  rw [getElem!_pos _ t h1] at h3
  rw [h3]
  have hq : t / 3 < L.length := by omega
  have k1 := ecells_at (R := chgE) L (j := t / 3) hq (i := t % 3) (Nat.mod_lt _ (by decide))
  change (ecells chgE L)[t / 3 * 3 + t % 3]? = _ at k1
  rw [show t / 3 * 3 + t % 3 = t by omega] at k1
  have e0 : L.toArray[t / 3]! = L[t / 3] := by rw [getElem!_pos _ _ (by simp; omega)]; simp
  rw [e0]
  have h2' : t < (ecells chgE L).length := by simpa using h2
  have e1 : (ecells chgE L).toArray[t] = (ecells chgE L)[t] := by simp
  rw [e1]
  rw [List.getElem?_eq_getElem h2'] at k1
  have hm : t % 3 < (chgE.enc L[t / 3]).length := by rw [chgE.len]; exact Nat.mod_lt _ (by decide)
  rw [List.getElem?_eq_getElem hm] at k1
  rw [Option.some.inj k1]
  first | rw [getElem!_pos _ _ hm] | simp [hm]
set_option maxRecDepth 100000 in
theorem holdsC {w : World} {g : Nat} {cur : Array Value} {M : List Chg} (hb : w.heap[g]? = some (.cells cur 167 (0, 0))) (ht : cur.toList.take (M.length * 3) = ecells chgE M) : Sort.HoldsK chgE.enc 3 w g 0 M.toArray := by
  have hel := ecells_len (R := chgE) M
  change (ecells chgE M).length = M.length * 3 at hel
  unfold Sort.HoldsK
  rw [flat_ecells]
  intro j hj
  have hj' : j < M.length * 3 := by rw [← hel]; simpa using hj
  have hj2 : j < (ecells chgE M).length := by simpa using hj
  refine ⟨?_, Lib.frozen_of_heap hb _⟩
  rw [Nat.zero_add, cell_of_row w g j cur 167 (0, 0) hb]
  have h1 : (cur.toList.take (M.length * 3))[j]? = (ecells chgE M)[j]? := by rw [ht]
  rw [List.getElem?_take_of_lt hj'] at h1
  rw [← Array.getElem?_toList, h1, getElem!_pos _ j hj, List.getElem?_eq_getElem hj2]
  simp
set_option maxRecDepth 100000 in
theorem take_putC {cur : Array Value} {L : List Chg} (h : L.length * 3 ≤ cur.size) : (Sort.putCells id 0 (ecells chgE L).toArray cur).toList.take (L.length * 3) = ecells chgE L := by
  have hwl := ecells_len (R := chgE) L
  change (ecells chgE L).length = L.length * 3 at hwl
  apply List.ext_getElem?
  intro j
  by_cases hj : j < L.length * 3
  · rw [List.getElem?_take_of_lt hj, Array.getElem?_toList]
    have hj2 : j < (ecells chgE L).length := by omega
    simp [Sort.putCells, hj2, show j < cur.size by omega]
  · rw [List.getElem?_take_eq_none (by omega), List.getElem?_eq_none (by omega)]
set_option maxRecDepth 100000 in
theorem heap_sortedC {w : World} {g n : Nat} {os : Array Obj} {cur : Array Value} {e : TypeId} {fr : Nat × Nat} (d : Array Value) (hb : w.heap[g]? = some (.cells cur e fr)) :
    (Sort.grow (Sort.putRow id (Sort.ahead w n) g 0 d) os).heap[g]? = some (.cells (Sort.putCells id 0 d cur) e fr) := by
  have hg : g < w.heap.size := (Array.getElem?_eq_some_iff.1 hb).1
  rw [Sort.heap_grow_old _ _ (by simpa using hg)]
  simp [Sort.putRow, Sort.mapBlock, Sort.ahead, Array.getElem?_modify, hb, Sort.onCells]
set_option maxRecDepth 100000 in
theorem grown_sortedC {w : World} {g n : Nat} {os : Array Obj} (d : Array Value) : w.grownBy (Sort.grow (Sort.putRow id (Sort.ahead w n) g 0 d) os) (some g) := by
  refine ⟨rfl, rfl, rfl, by simp, fun k hk hne => ?_⟩
  rw [Sort.heap_grow_old _ _ (by simpa using hk)]
  have : g ≠ k := fun e => hne (by rw [e])
  simp [Sort.putRow, Sort.mapBlock, Sort.ahead, Array.getElem?_modify, this]
set_option maxRecDepth 100000 in
/-- Sorted, no pair twice: it rises. -/
theorem sorted_rises {M : List Chg} {d' : Array Chg} (hn : M.Pairwise fun x y => x.1 ≠ y.1) (h1 : Sort.PermIn 0 M.toArray.size M.toArray d') (h2 : Sort.SortedIn (ltOf cfC) 0 M.toArray.size d') : d'.toList.Perm M ∧ d'.toList.Pairwise fun x y => pb x.1 y.1 := by
  obtain ⟨hs, _, hq⟩ := h1
  have e1 : d'.extract 0 M.toArray.size = d' := by rw [← hs]; simp
  have e2 : M.toArray.extract 0 M.toArray.size = M.toArray := by simp
  rw [e1, e2] at hq
  have hq' : d'.toList.Perm M := hq.trans (by simp)
  have hn' : d'.toList.Pairwise fun x y => x.1 ≠ y.1 := (hq'.pairwise_iff (fun {a b} h => fun e => h e.symm)).2 hn
  refine ⟨hq', List.pairwise_iff_getElem.2 fun i j hi hj hij => ?_⟩
  have hj' : j < d'.size := by simpa using hj
  have hi' : i < d'.size := by simpa using hi
  have h3 := h2 i j (by omega) hij (by omega)
  rw [ltC, getElem!_pos d' j hj', getElem!_pos d' i hi'] at h3
  have h4 := of_decide_eq_false h3
  have h5 := List.pairwise_iff_getElem.1 hn' i j hi hj hij
  simp only [Array.getElem_toList] at h5 ⊢
  exact (pb_total h5).resolve_right h4
set_option maxRecDepth 100000 in
/-- Sorted: the same row holds a list that rises. -/
theorem csort_any (v : Value) (M : List Chg) (w : World) (base : Nat) (h : ownE chgE w base v M) (hn : M.Pairwise fun x y => x.1 ≠ y.1) (hl : M.length ≤ 1048576) :
    Calls Tryz.prog 110 #[v, .func (.func 111) #[] #[]] w fun e w' => e = .returned (.tuple #[]) ∧ ∃ L, ownE chgE w' base v L ∧ L.Perm M ∧ (L.Pairwise fun x y => pb x.1 y.1) ∧ w.grownBy w' v.ownBlock := by
  by_cases h0 : M.length = 0
  · obtain rfl : M = [] := List.eq_nil_of_length_eq_zero h0
    obtain ⟨a, cap, rfl, _⟩ := h.form
    refine (AnyF.slices_SortFunc_none sortLaysC a cap (.func (.func 111) #[] #[]) w).mono ?_
    rintro e w' ⟨rfl, rfl⟩
    exact ⟨rfl, [], h, List.Perm.refl _, List.Pairwise.nil, ⟨rfl, rfl, rfl, Nat.le_refl _, fun _ _ _ => rfl⟩⟩
  · rcases h.2 with ⟨_, h1⟩ | ⟨g, cap, cur, rfl, hbase, hb, h1, h2, h3, h4⟩
    · omega
    · have eg : ∀ args w, (callFunc 111 args).run Tryz.prog w = .ok (.enter 111 args) w := enters_of Tryz.func111 (by kernel_rfl) rfl
      have hcon := AnyQ.slices_SortFunc sortLaysC 3 (fun w => by kernel_rfl) (fun w => by kernel_rfl) chgE.enc (fun _ => rfl) (fun x v hv => chgE.one x v hv) cfC swoC 111 #[] g 0 cap M.toArray w eg (cmpLaysC g 0 M.toArray.size w) (holdsC hb h4) (Array.getElem?_eq_some_iff.1 hb).1 (by simp; omega)
      have es : M.toArray.size = M.length := by simp
      change Calls Tryz.prog 110 #[.slice (some ⟨g, 0, none⟩) M.toArray.size cap, _] _ _ at hcon
      refine (es ▸ hcon).mono ?_
      rintro e w' ⟨rfl, d', n, os, hperm, hsort, rfl⟩
      obtain ⟨hp, hr⟩ := sorted_rises hn (by rw [es]; exact hperm) (by rw [es]; exact hsort)
      have hlen := hp.length_eq
      obtain ⟨L, rfl⟩ : ∃ L : List Chg, d' = L.toArray := ⟨d'.toList, by simp⟩
      simp only at hp hr hlen
      unfold sortWorldK Sort.putRowK
      rw [flat_ecells]
      change cur.size = cap * 3 at h3
      refine ⟨rfl, L, ⟨ecells_len L, .inr ⟨g, cap, _, by rw [hlen], hbase, heap_sortedC _ hb, by omega, h2, by show _ = cap * 3; simpa [Sort.putCells] using h3, take_putC (by omega)⟩⟩, hp, hr, grown_sortedC _⟩
end Go.Proofs.YtnmacalbbmeedaaGreat
/- What a map of pairs tells, rising. -/
namespace Go.Proofs.YtnmacalbbmeedaaGreat
open Go.RowKit Go.Maps

set_option maxRecDepth 100000 in
theorem map_size {w : World} {b n : Nat} {D : DataW Unit} (h : w.ownsMap Tryz.prog 77 (plainElem Tryz.prog 3) b n D) : Maps.size D ≤ n := by
  obtain ⟨es, clock, hb, F, hs, rfl⟩ := h
  have : Maps.size (DataW.map ((es.toList.map (WideElems.rg Tryz.prog 77 (plainElem (H := Unit) Tryz.prog 3))).foldr DataW.insert [])) = es.size := by simp [Maps.size, length_sorted]
  omega
set_option maxRecDepth 100000 in
/-- A range's step over a map of pairs. -/
theorem wpList_next_pairs (w : World) {ops : Array Oper} {rest : List Oper} {o : Oper} {a : Act} {Q : Exit → Act → World → Prop} (hg : o.guard = none) (it : Operand) (hop : o.op = Op.next it false) (D : DataW Unit) (b r n : Nat) (left : Lit → Bool) (cntP : Nat)
    (hit : a.eval it = .pointer (some ⟨r, 0, none⟩)) (h : w.ranges Tryz.prog 77 (plainElem Tryz.prog 3) b r n D left cntP)
    (hDone : cntP = 0 → (∀ kl, left kl = false) → wpList Tryz.prog ops Q rest (a.put o.dst (.tuple #[.bool false])) w)
    (hMore : ∀ (p : Int × Int) (c : Int) (w' : World) (cnt' : Nat), FitsPr p → left (pk p) = true → (∀ zd, D.atKey (pk p) zd = .lit (.int .i64 c)) → w'.ranges Tryz.prog 77 (plainElem Tryz.prog 3) b r n D (fun z => left z && !z.sameKey (pk p)) cnt' → cnt' < cntP →
      w.grownBy w' (some r) → (Instr.entry (.pointer (some ⟨r, 0, none⟩))).run Tryz.prog w' = .ok (.tuple #[.agg #[.int .i64 p.1, .int .i64 p.2], .int .i64 c]) w' → wpList Tryz.prog ops Q rest (a.put o.dst (.tuple #[.bool true, .agg #[.int .i64 p.1, .int .i64 p.2], .int .i64 c])) w') :
    wpList Tryz.prog ops Q (o :: rest) a w :=
  wpList_next_ranges w hg it hop 77 lawP (plainElem Tryz.prog 3) pv (Value.int .i64) (fun key kl hkey => by obtain ⟨p, rfl, _⟩ := key_pair_inv hkey; exact ⟨p, rfl⟩) (fun v y hv => by obtain ⟨c, rfl, _⟩ := plainElem_int_inv Tryz.underlying3 hv; exact ⟨c, rfl⟩)
    b r n D left cntP hit h hDone (fun x c kl y w' cnt' hkey hlk hv hat hrg hlt hgr hsz hen => by
      obtain ⟨p, ex, rfl, hp⟩ := key_pair_inv hkey
      obtain ⟨c', ec, rfl, hwc⟩ := plainElem_int_inv Tryz.underlying3 hv
      cases ec
      have e : x = p := by
        unfold pv at ex
        simp only [Value.agg.injEq, Array.mk.injEq, List.cons.injEq, Value.int.injEq, true_and, and_true] at ex
        exact Prod.ext ex.1 ex.2
      subst e
      exact hMore x c w' cnt' hp hlk hat hrg hlt hgr hen)
def RisRel (w : World) (b r N : Nat) (D : DataW Unit) (f : Int × Int → Int) (v : Value) (wr : World) : Prop :=
  ∃ (left : Lit → Bool) (cntP : Nat) (M : List Chg), wr.ranges Tryz.prog 77 (plainElem Tryz.prog 3) b r N D left cntP ∧ ownE chgE wr w.heap.size v M ∧ (∀ p c, (p, c) ∈ M ↔ FitsPr p ∧ f p = c ∧ c ≠ 0 ∧ left (pk p) = false) ∧
    (M.Pairwise fun x y => x.1 ≠ y.1) ∧ M.length + cntP ≤ N ∧ Below w.heap.size w wr
set_option maxRecDepth 100000 in
theorem ownE.ne_pmap {w : World} {b m : Nat} {v : Value} {M : List Chg} {n : Nat} {D : DataW Unit} (h : ownE chgE w b v M) (hm : w.ownsMap Tryz.prog 77 (plainElem (H := Unit) Tryz.prog 3) m n D) : some m ≠ v.ownBlock := by
  intro e
  obtain ⟨cs, hc⟩ := h.block m e.symm
  obtain ⟨es, clock, hb, _⟩ := hm
  rw [hc] at hb; cases hb
set_option maxRecDepth 100000 in
theorem ris_mem {M : List Chg} {D : DataW Unit} {f : Int × Int → Int} {left : Lit → Bool} {p : Int × Int} {c : Int} (hM : ∀ p c, (p, c) ∈ M ↔ FitsPr p ∧ f p = c ∧ c ≠ 0 ∧ left (pk p) = false) (hp : FitsPr p) (hl : left (pk p) = true)
    (hD : ∀ p, FitsPr p → D.atKey (pk p) (.lit (.int .i64 0)) = .lit (.int .i64 (f p)) ∧ Maps.has D (pk p) = decide (f p ≠ 0)) (hat : ∀ zd, D.atKey (pk p) zd = .lit (.int .i64 c)) :
    (∀ q d, (q, d) ∈ M ++ [(p, c)] ↔ FitsPr q ∧ f q = d ∧ d ≠ 0 ∧ (left (pk q) && !(pk q).sameKey (pk p)) = false) ∧ (M.Pairwise (fun x y => x.1 ≠ y.1) → (M ++ [(p, c)]).Pairwise fun x y => x.1 ≠ y.1) := by
  obtain ⟨h1, h2⟩ := hD p hp
  rw [hat] at h1
  have hc : f p = c := by cases h1; rfl
  have hne : f p ≠ 0 := by
    rw [has_true_of_atKey hat] at h2
    exact of_decide_eq_true h2.symm
  constructor
  · intro q d
    rw [List.mem_append, List.mem_singleton, hM]
    constructor
    · rintro (⟨a1, a2, a3, a4⟩ | e)
      · exact ⟨a1, a2, a3, by rw [a4]; rfl⟩
      · cases e
        exact ⟨hp, hc, hc ▸ hne, by rw [WideAt.sameKey_self (pk_key p)]; simp⟩
    · rintro ⟨a1, a2, a3, a4⟩
      by_cases e : q = p
      · subst e
        exact .inr (by rw [← a2, hc])
      · refine .inl ⟨a1, a2, a3, ?_⟩
        rw [sameKey_ne fun k => e (pk_inj a1 hp k)] at a4
        simpa using a4
  · intro hn
    refine List.pairwise_append.2 ⟨hn, List.pairwise_singleton _ _, fun x hx y hy => ?_⟩
    rw [List.mem_singleton] at hy
    subst hy
    intro e
    have := ((hM x.1 x.2).1 hx).2.2.2
    rw [e, hl] at this
    cases this
set_option maxRecDepth 100000 in
theorem ris_step {w wr w1 w2 : World} {b r cntP cnt' N : Nat} {D : DataW Unit} {f : Int × Int → Int} {M : List Chg} {v v' : Value} {left : Lit → Bool} {p : Int × Int} {c : Int} (o : Obj) (hb : Below w.heap.size w wr) (hM : ∀ p c, (p, c) ∈ M ↔ FitsPr p ∧ f p = c ∧ c ≠ 0 ∧ left (pk p) = false) (hn : M.Pairwise fun x y => x.1 ≠ y.1) (hp : FitsPr p) (hl : left (pk p) = true)
    (hD : ∀ p, FitsPr p → D.atKey (pk p) (.lit (.int .i64 0)) = .lit (.int .i64 (f p)) ∧ Maps.has D (pk p) = decide (f p ≠ 0)) (hat : ∀ zd, D.atKey (pk p) zd = .lit (.int .i64 c))
    (hrr : w.heap.size ≤ r) (hg : wr.grownBy w1 (some r)) (h1 : w1.ranges Tryz.prog 77 (plainElem (H := Unit) Tryz.prog 3) b r N D (fun z => left z && !z.sameKey (pk p)) cnt') (hv : ownE chgE w1 w.heap.size v M) (hcnt : M.length + cntP ≤ N) (hlt : cnt' < cntP)
    (h2 : ownE chgE w2 w.heap.size v' (M ++ [(p, c)])) (hg2 : ((w1.alloc o).alloc (.cells #[.int .i64 p.1, .int .i64 p.2, .int .i64 c] 167)).grownBy w2 v.ownBlock) :
    RisRel w b r N D f v' w2 ∧ w2.ranges Tryz.prog 77 (plainElem (H := Unit) Tryz.prog 3) b r N D (fun z => left z && !z.sameKey (pk p)) cnt' := by
  have hv' := (hv.alloc o).alloc (.cells #[.int .i64 p.1, .int .i64 p.2, .int .i64 c] 167)
  have h0 := (h1.alloc o).alloc (.cells #[.int .i64 p.1, .int .i64 p.2, .int .i64 c] 167)
  have h3 := h0.kept hg2 (hv'.ne_pmap h0.owns) (row_ne_iter hv' h0)
  have hs := hb.size
  have hs1 := hg.size
  have hb1 : Below w.heap.size w w1 := hb.grown hg hs fun g e => by cases e; exact hrr
  obtain ⟨m1, m2⟩ := ris_mem hM hp hl hD hat
  exact ⟨⟨_, cnt', M ++ [(p, c)], h3, h2, m1, m2 hn, by simp; omega, ((hb1.alloc (by omega) o).alloc (by rw [World.size_alloc]; omega) _).grown hg2 (by rw [World.size_alloc, World.size_alloc]; omega) fun g e => (hv.lt g e).1⟩, h3⟩
set_option maxRecDepth 100000 in
set_option maxHeartbeats 2000000 in
theorem rising_any (b N : Nat) (f : Int × Int → Int) (w : World) (h : PMap w b N f) (hN : N ≤ 100000) :
    Calls Tryz.prog 90 #[.map (some b)] w fun e w' => ∃ v L, e = .returned v ∧ ownE chgE w' w.heap.size v L ∧ ChangesOf f L ∧ L.length ≤ N ∧ Below w.heap.size w w' := by
  obtain ⟨D, hown, hD, _⟩ := h
  have HD := Lib.hid hD
  have hlen := World.ownsMap.len hown Tryz.underlying168 3
  have hsz := map_size hown
  obtain ⟨n, hn⟩ : ∃ n, Maps.size D = n := ⟨_, rfl⟩
  have HN := Lib.hid hn
  rw [hn] at hlen hsz
  have hlt := World.ownsMap.lt hown
  obtain ⟨i0, hi, hz0, hz1, hz2⟩ := info_parts chgE.info
  obtain ⟨w1, hmk, hown1, hg1⟩ := run_make_own (P := Tryz.prog) w w.heap.size 137 167 i0 _ 3 Tryz.underlying137 hi hz0 hz1 .i64 .i64 n (by rw [hz2]; show 24 * n ≤ _; omega) (by unfold maxLen; omega) (Nat.le_refl _)
  have hb1 : Below w.heap.size w w1 := (Below.refl _ w).grown hg1 (Nat.le_refl _) (by simp)
  have HB1 := Lib.hid hb1
  have HO1 : Hid (ownE chgE w1 w.heap.size (.slice (some ⟨w.heap.size, 0, none⟩) 0 n) []) := Lib.hid hown1
  have hmap1 : w1.ownsMap Tryz.prog 77 (plainElem Tryz.prog 3) b N D := by
    obtain ⟨es, clock, hb, rest⟩ := hown
    exact ⟨es, clock, (hb1.block b hlt).trans hb, rest⟩
  obtain ⟨w2, hrng, hrg2, hg2, hs2⟩ := World.ownsMap.range (w := w1) hmap1 lawP Tryz.underlying168
  have HR2 := Lib.hid hrg2; have HG2 := Lib.hid hg2
  have HS1 : Hid (w.heap.size ≤ w1.heap.size) := Lib.hid HB1.out.size
  obtain ⟨r, hr⟩ : ∃ r, w1.heap.size = r := ⟨_, rfl⟩
  rw [hr] at hrng HR2 HS1
  clear hr hrg2 hg2 hs2 hmap1 hb1 hown1 hg1 hi hz0 hz1 hz2 hn hD hown hlt
  go_enter Tryz.func90, Tryz.ntmps90
  go_wp2
  go_loopw [3] (fun v wr => RisRel w b r N D f v wr) (fun _ wr => wr.rangeLeft b r)
  case atStart =>
    refine ⟨_, _, [], HR2.out, HO1.out.kept fun g hg => HG2.out.block g (HO1.out.lt g hg).2 (by simp), fun p c => ⟨fun h => by simp at h, ?_⟩, List.Pairwise.nil, by rw [HN.out]; simp; omega, HB1.out.grown HG2.out HB1.out.size (by simp)⟩
    rintro ⟨h1, h2, h3, h4⟩
    rw [(HD.out p h1).2, h2] at h4
    exact absurd h3 (of_decide_eq_false h4)
  case round =>
    obtain ⟨left, cntP, M, hrg, hown, hM, hnd, hcn, hbel⟩ := hrel
    have HM := Lib.hid hM; have HO := Lib.hid hown; have HB := Lib.hid hbel; have HR := Lib.hid hrg; have HND := Lib.hid hnd; have HCN := Lib.hid hcn
    clear hM hown hbel hrg hnd hcn
    go_wp2_with (at_next; refine wpList_next_pairs _ rfl _ rfl D b r N left cntP rfl HR.out ?_ ?_)
    · intro _ hl0
      have HP : Hid (∀ p c, (p, c) ∈ M ↔ FitsPr p ∧ f p = c ∧ c ≠ 0) := Lib.hid (fun p c => by rw [HM.out]; simp [hl0])
      clear hl0
      go_wp2_with fail
      refine (csort_any u3 M _ w.heap.size HO.out HND.out (by have := HCN.out; omega)).mono ?_
      rintro e w5 ⟨rfl, L, hown5, hp5, hr5, hg5⟩
      have HO5 := Lib.hid hown5; have HG5 := Lib.hid hg5; have HP5 := Lib.hid hp5; have HR5 := Lib.hid hr5
      clear hown5 hg5 hp5 hr5
      go_wp2
      go_ret
      exact ⟨_, L, rfl, HO5.out, ⟨HR5.out, fun p c => by rw [HP5.out.mem_iff, HP.out]⟩, by rw [HP5.out.length_eq]; have := HCN.out; omega, HB.out.grown HG5.out HB.out.size fun g e => (HO.out.lt g e).1⟩
    · intro p q c w3 cnt3 hfp hlx hat hrg3 hlt hg3 hen
      have HF := Lib.hid hfp; have HL := Lib.hid hlx; have HX := Lib.hid hat; have HR3 := Lib.hid hrg3; have HT := Lib.hid hlt; have HG3 := Lib.hid hg3
      have HO3 : Hid (ownE chgE w3 w.heap.size u3 M) := Lib.hid (HO.out.kept fun g hg => HG3.out.block g (HO.out.lt g hg).2 (fun e => by
        have := row_ne_iter HO.out HR.out
        rw [hg] at this; exact this e.symm))
      have HO4 : Hid (ownE chgE ((w3.alloc (.cells #[.int .i64 p, .int .i64 q] 77)).alloc (.cells #[.int .i64 p, .int .i64 q, .int .i64 c] 167)) w.heap.size u3 M) := Lib.hid ((HO3.out.alloc _).alloc _)
      have HE4 : Hid (eltsAt chgE ((w3.alloc (.cells #[.int .i64 p, .int .i64 q] 77)).alloc (.cells #[.int .i64 p, .int .i64 q, .int .i64 c] 167)) (.slice (some ⟨w3.heap.size + 1, 0, none⟩) 1 1) [((p, q), c)]) := Lib.hid (by
        have := one_elt chgE (w3.alloc (.cells #[.int .i64 p, .int .i64 q] 77)) ((p, q), c)
        rwa [World.size_alloc] at this)
      have HZ : Hid (w.heap.size ≤ ((w3.alloc (.cells #[.int .i64 p, .int .i64 q] 77)).alloc (.cells #[.int .i64 p, .int .i64 q, .int .i64 c] 167)).heap.size) := Lib.hid (by rw [World.size_alloc, World.size_alloc]; have := HB.out.size; have := HG3.out.size; omega)
      clear hfp hlx hat hrg3 hlt hg3
      go_wp2_with (at_builtin; refine wpList_append_elts chgE rfl (.tmp 16) (.tmp 20) rfl w.heap.size u3 _ M [((p, q), c)] rfl rfl HO4.out HE4.out (fun n c e => by cases e) (by have := HCN.out; simp; omega) HZ.out ?_; intro r5 w5 hown5 hg5 _; have HO5 := Lib.hid hown5; have HG5 := Lib.hid hg5; clear hown5 hg5)
      have HS := Lib.hid (ris_step (.cells #[.int .i64 p, .int .i64 q] 77) HB.out HM.out HND.out HF.out HL.out HD.out HX.out HS1.out HG3.out HR3.out HO3.out HCN.out HT.out HO5.out HG5.out)
      go_roundw
      case rel => exact HS.out.1
      case measure => rw [HS.out.2.left_eq, HR.out.left_eq]; exact HT.out
end Go.Proofs.YtnmacalbbmeedaaGreat
