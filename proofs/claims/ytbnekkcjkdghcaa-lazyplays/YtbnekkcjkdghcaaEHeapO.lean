/- A heap in memory (its order may read memory); two places exchanged, and compared. By gen_heap.py. -/
import Derived.Test.YtbnekkcjkdghcaaSRow
import Derived.Test.YtbnekkcjkdghcaaHeapP
import Derived.Test.YtbnekkcjkdghcaaEEnt
import Derived.BigRegion
import Derived.Deep.RegionHeld3
namespace Go.Proofs.Ytbnekkcjkdghcaa
open Go.RowKit Go.Shelf
open Go.Sort (grow grow_empty grow_grow alloc_eq_grow heap_grow_old)

set_option maxRecDepth 100000 in
/-- One cell of one element of an owned row, written: the element y is the old one with that cell turned. -/
theorem ownE.gstore {α : Type} {R : Elt α} {w : World} {b g n cap j i : Nat} {L : List α} {u : Value} (h : ownE R w b (.slice (some ⟨g, 0, none⟩) n cap) L) (y : α) (hj : j < L.length) (hi : i < R.n) (hy : R.enc y = (R.enc L[j]).set i u) :
    ownE R (w.setCell ⟨g, j * R.n + i, none⟩ u) b (.slice (some ⟨g, 0, none⟩) n cap) (L.set j y) := by
  rcases h.2 with ⟨h0, _⟩ | ⟨g', cap', cur, hv, hb, hg, h1, h2, h3, h4⟩
  · cases h0
  · cases hv
    refine ⟨ecells_len _, .inr ⟨g, cap, _, by rw [List.length_set], hb, heap_setCell_at hg u, by rw [List.length_set]; exact h1, h2, by simpa using h3, ?_⟩⟩
    rw [Array.toList_setIfInBounds, List.length_set, List.take_set, h4, ecells_set y hy hi hj rfl]
set_option maxRecDepth 100000 in
theorem ownE.gcells {α : Type} {R : Elt α} {w : World} {b g n cap j i : Nat} {L : List α} (h : ownE R w b (.slice (some ⟨g, 0, none⟩) n cap) L) (hj : j < L.length) (hi : i < R.n) :
    w.cell? ⟨g, j * R.n + i, none⟩ = (R.enc L[j])[i]? ∧ w.frozen? ⟨g, j * R.n + i, none⟩ = false := by
  rcases h.2 with ⟨h0, _⟩ | ⟨g', cap', cur, hv, hb, hg, h1, h2, h3, h4⟩
  · cases h0
  · cases hv
    refine ⟨?_, Lib.frozen_of_heap hg _⟩
    have hi2 : j * R.n + i < L.length * R.n := by
      have : (j + 1) * R.n ≤ L.length * R.n := Nat.mul_le_mul_right _ hj
      rw [Nat.add_mul] at this
      omega
    rw [cell_of_row w g _ cur R.ty (0, 0) hg, ← ecells_at L hj hi, ← h4, List.getElem?_take_of_lt hi2]
    simp
/-- Block K is a heap: its order, its items, how many were pushed, and the most that there ever were. -/
structure Hp (w : World) (B K : Nat) (fv v : Value) (A : List Ent) (pu pk : Int) : Prop where
  box : w.heap[K]? = some (.cells #[fv, v, .int .i64 pu, .int .i64 pk] 86 (0, 0))
  row : ownE entE w B v A
  few : A.length ≤ 100000
  base : B ≤ K
  fits : ∀ x ∈ A, FitsE x
variable {w w' : World} {B K : Nat} {fv v : Value} {A : List Ent} {pu pk : Int}
set_option maxRecDepth 100000 in
theorem Hp.ltK (h : Hp w B K fv v A pu pk) : K < w.heap.size := (Array.getElem?_eq_some_iff.1 h.box).1
set_option maxRecDepth 100000 in
theorem Hp.kept (h : Hp w B K fv v A pu pk) (hk : ∀ k, k < w.heap.size → mine K v k → w'.heap[k]? = w.heap[k]?) : Hp w' B K fv v A pu pk :=
  ⟨(hk K h.ltK (.inl rfl)).trans h.box, h.row.kept fun g hg => hk g (h.row.lt g hg).2 (.inr hg.symm), h.few, h.base, h.fits⟩
set_option maxRecDepth 100000 in
theorem Hp.below (h : Hp w B K fv v A pu pk) (hb : Below w.heap.size w w') : Hp w' B K fv v A pu pk := h.kept fun k hk _ => hb.block k hk
set_option maxRecDepth 100000 in
theorem Hp.grown (h : Hp w B K fv v A pu pk) (hg : Grown w w') : Hp w' B K fv v A pu pk := h.below hg.below
set_option maxRecDepth 100000 in
theorem Hp.drewN (h : Hp w B K fv v A pu pk) (n : Nat) : Hp (w.drewN n) B K fv v A pu pk := ⟨h.box, h.row, h.few, h.base, h.fits⟩
set_option maxRecDepth 100000 in
theorem Hp.drew (h : Hp w B K fv v A pu pk) : Hp w.drew B K fv v A pu pk := ⟨h.box, h.row, h.few, h.base, h.fits⟩
set_option maxRecDepth 100000 in
theorem Hp.cells (h : Hp w B K fv v A pu pk) : w.cell? ⟨K, 0, none⟩ = some fv ∧ w.cell? ⟨K, 1, none⟩ = some v ∧ w.cell? ⟨K, 2, none⟩ = some (.int .i64 pu) ∧ w.cell? ⟨K, 3, none⟩ = some (.int .i64 pk) := by
  refine ⟨?_, ?_, ?_, ?_⟩ <;> · rw [cell_of_row w K _ _ 86 (0, 0) h.box]; rfl
set_option maxRecDepth 100000 in
theorem Hp.frozen (h : Hp w B K fv v A pu pk) (i : Nat) : w.frozen? ⟨K, i, none⟩ = false := Lib.frozen_of_heap h.box _
set_option maxRecDepth 100000 in
theorem Hp.apart (h : Hp w B K fv v A pu pk) : v.ownBlock ≠ some K := by
  intro e
  obtain ⟨cs, h1⟩ := h.row.block K e
  have h2 := h.box
  rw [h1] at h2
  have := congrArg (fun o => match o with | some (Obj.cells _ t _) => t | _ => 0) h2
  simp [entE] at this
set_option maxRecDepth 100000 in
/-- Where the items lie. -/
theorem Hp.place (h : Hp w B K fv v A pu pk) (h0 : 0 < A.length) : ∃ g cap, v = .slice (some ⟨g, 0, none⟩) A.length cap ∧ A.length ≤ cap ∧ B ≤ g ∧ g < w.heap.size ∧ g ≠ K := by
  obtain ⟨a, cap, rfl, hc⟩ := h.row.form
  obtain ⟨g, rfl, hg⟩ := ownE_some h.row h0
  exact ⟨g, cap, rfl, hc, hg, (h.row.lt g rfl).2, fun e => h.apart (by rw [e]; rfl)⟩
set_option maxRecDepth 100000 in
theorem Hp.at {g n cap : Nat} (h : Hp w B K fv (.slice (some ⟨g, 0, none⟩) n cap) A pu pk) {j : Nat} (hj : j < A.length) :
    w.cell? ⟨g, j * 6, none⟩ = some (.int .i64 A[j].1) ∧ w.cell? ⟨g, j * 6 + 1, none⟩ = some (.int .i64 A[j].2.1) ∧ w.cell? ⟨g, j * 6 + 2, none⟩ = some (.int .i64 A[j].2.2.1) ∧ w.cell? ⟨g, j * 6 + 3, none⟩ = some (.int .i64 A[j].2.2.2.1) ∧ w.cell? ⟨g, j * 6 + 4, none⟩ = some (.int .i64 A[j].2.2.2.2.1) ∧ w.cell? ⟨g, j * 6 + 5, none⟩ = some (.int .i64 A[j].2.2.2.2.2) ∧ w.frozen? ⟨g, j * 6, none⟩ = false ∧ w.frozen? ⟨g, j * 6 + 1, none⟩ = false ∧ w.frozen? ⟨g, j * 6 + 2, none⟩ = false ∧ w.frozen? ⟨g, j * 6 + 3, none⟩ = false ∧ w.frozen? ⟨g, j * 6 + 4, none⟩ = false ∧ w.frozen? ⟨g, j * 6 + 5, none⟩ = false :=
  ⟨(h.row.gcells (i := 0) hj (by decide)).1, (h.row.gcells (i := 1) hj (by decide)).1, (h.row.gcells (i := 2) hj (by decide)).1, (h.row.gcells (i := 3) hj (by decide)).1, (h.row.gcells (i := 4) hj (by decide)).1, (h.row.gcells (i := 5) hj (by decide)).1, (h.row.gcells (i := 0) hj (by decide)).2, (h.row.gcells (i := 1) hj (by decide)).2, (h.row.gcells (i := 2) hj (by decide)).2, (h.row.gcells (i := 3) hj (by decide)).2, (h.row.gcells (i := 4) hj (by decide)).2, (h.row.gcells (i := 5) hj (by decide)).2⟩
set_option maxRecDepth 100000 in
theorem ownE.gput {w : World} {b g n cap j : Nat} {L : List Ent} (h : ownE entE w b (.slice (some ⟨g, 0, none⟩) n cap) L) (x : Ent) (hj : j < L.length) :
    ownE entE ((((((w.setCell ⟨g, j * 6, none⟩ (.int .i64 x.1)).setCell ⟨g, j * 6 + 1, none⟩ (.int .i64 x.2.1)).setCell ⟨g, j * 6 + 2, none⟩ (.int .i64 x.2.2.1)).setCell ⟨g, j * 6 + 3, none⟩ (.int .i64 x.2.2.2.1)).setCell ⟨g, j * 6 + 4, none⟩ (.int .i64 x.2.2.2.2.1)).setCell ⟨g, j * 6 + 5, none⟩ (.int .i64 x.2.2.2.2.2)) b (.slice (some ⟨g, 0, none⟩) n cap) (L.set j x) := by
  have h0 := h.gstore (i := 0) (u := .int .i64 x.1) (x.1, L[j].2.1, L[j].2.2.1, L[j].2.2.2.1, L[j].2.2.2.2.1, L[j].2.2.2.2.2) hj (by decide) rfl
  have h1 := h0.gstore (j := j) (i := 1) (u := .int .i64 x.2.1) (x.1, x.2.1, L[j].2.2.1, L[j].2.2.2.1, L[j].2.2.2.2.1, L[j].2.2.2.2.2) (by simpa using hj) (by decide) (by first | rfl | (rw [List.getElem_set_self]; rfl) | (simp; rfl))
  rw [List.set_set] at h1
  have h2 := h1.gstore (j := j) (i := 2) (u := .int .i64 x.2.2.1) (x.1, x.2.1, x.2.2.1, L[j].2.2.2.1, L[j].2.2.2.2.1, L[j].2.2.2.2.2) (by simpa using hj) (by decide) (by first | rfl | (rw [List.getElem_set_self]; rfl) | (simp; rfl))
  rw [List.set_set] at h2
  have h3 := h2.gstore (j := j) (i := 3) (u := .int .i64 x.2.2.2.1) (x.1, x.2.1, x.2.2.1, x.2.2.2.1, L[j].2.2.2.2.1, L[j].2.2.2.2.2) (by simpa using hj) (by decide) (by first | rfl | (rw [List.getElem_set_self]; rfl) | (simp; rfl))
  rw [List.set_set] at h3
  have h4 := h3.gstore (j := j) (i := 4) (u := .int .i64 x.2.2.2.2.1) (x.1, x.2.1, x.2.2.1, x.2.2.2.1, x.2.2.2.2.1, L[j].2.2.2.2.2) (by simpa using hj) (by decide) (by first | rfl | (rw [List.getElem_set_self]; rfl) | (simp; rfl))
  rw [List.set_set] at h4
  have h5 := h4.gstore (j := j) (i := 5) (u := .int .i64 x.2.2.2.2.2) x (by simpa using hj) (by decide) (by first | rfl | (rw [List.getElem_set_self]; rfl) | (simp; rfl))
  rw [List.set_set] at h5
  exact h5
set_option maxRecDepth 100000 in
theorem Hp.put {g n cap : Nat} (h : Hp w B K fv (.slice (some ⟨g, 0, none⟩) n cap) A pu pk) (x : Ent) {j : Nat} (hj : j < A.length) (hgK : g ≠ K) (hx : FitsE x) :
    Hp ((((((w.setCell ⟨g, j * 6, none⟩ (.int .i64 x.1)).setCell ⟨g, j * 6 + 1, none⟩ (.int .i64 x.2.1)).setCell ⟨g, j * 6 + 2, none⟩ (.int .i64 x.2.2.1)).setCell ⟨g, j * 6 + 3, none⟩ (.int .i64 x.2.2.2.1)).setCell ⟨g, j * 6 + 4, none⟩ (.int .i64 x.2.2.2.2.1)).setCell ⟨g, j * 6 + 5, none⟩ (.int .i64 x.2.2.2.2.2)) B K fv (.slice (some ⟨g, 0, none⟩) n cap) (A.set j x) pu pk :=
  ⟨((((((Below.heap_setCell _ ⟨g, _, none⟩ _ K (fun e => hgK e.symm)).trans (Below.heap_setCell _ ⟨g, _, none⟩ _ K (fun e => hgK e.symm))).trans (Below.heap_setCell _ ⟨g, _, none⟩ _ K (fun e => hgK e.symm))).trans (Below.heap_setCell _ ⟨g, _, none⟩ _ K (fun e => hgK e.symm))).trans (Below.heap_setCell _ ⟨g, _, none⟩ _ K (fun e => hgK e.symm))).trans (Below.heap_setCell _ ⟨g, _, none⟩ _ K (fun e => hgK e.symm))).trans h.box, h.row.gput x hj, by rw [List.length_set]; exact h.few, h.base, fun y hy => by
    rcases List.mem_or_eq_of_mem_set hy with hy | rfl
    · exact h.fits y hy
    · exact hx⟩
set_option maxRecDepth 100000 in
theorem Kept.put {S : Nat → Prop} {a w : World} {g : Nat} (h : Kept S a w) (hg : S g) (i0 i1 i2 i3 i4 i5 : Nat) (x0 x1 x2 x3 x4 x5 : Value) : Kept S a ((((((w.setCell ⟨g, i0, none⟩ x0).setCell ⟨g, i1, none⟩ x1).setCell ⟨g, i2, none⟩ x2).setCell ⟨g, i3, none⟩ x3).setCell ⟨g, i4, none⟩ x4).setCell ⟨g, i5, none⟩ x5) := by
  exact ((((((h.setCell ⟨g, i0, none⟩ x0 fun _ => hg).setCell ⟨g, i1, none⟩ x1 fun _ => hg).setCell ⟨g, i2, none⟩ x2 fun _ => hg).setCell ⟨g, i3, none⟩ x3 fun _ => hg).setCell ⟨g, i4, none⟩ x4 fun _ => hg).setCell ⟨g, i5, none⟩ x5 fun _ => hg)
set_option maxRecDepth 100000 in
set_option maxHeartbeats 2000000 in
theorem swap_any (i j : Nat) (h : Hp w B K fv v A pu pk) (hi : i < A.length) (hj : j < A.length) (hne : i ≠ j) :
    Calls Try.prog 51 #[.pointer (some ⟨K, 0, none⟩), .int .i64 (i : Int), .int .i64 (j : Int)] w fun e w' => e = .returned (.tuple #[]) ∧ Hp w' B K fv v (exch A i j hi hj) pu pk ∧ Kept (fun k => v.ownBlock = some k) w w' := by
  obtain ⟨g, cap, rfl, hc, hB, hgw, hgK⟩ := h.place (by omega)
  have HH := Lib.hid h
  obtain ⟨c0, c1, c2, c3⟩ := h.cells
  obtain ⟨a0, a1, a2, a3, a4, a5, a6, a7, a8, a9, a10, a11⟩ := h.at hi
  obtain ⟨b0, b1, b2, b3, b4, b5, b6, b7, b8, b9, b10, b11⟩ := h.at hj
  have p0 : (0 : Int) ≤ (i : Int) := by omega
  have p1 : (i : Int) < (A.length : Int) := by omega
  have p2 : (0 : Int) ≤ (j : Int) := by omega
  have p3 : (j : Int) < (A.length : Int) := by omega
  clear h
  go_enter Try.func51, Try.ntmps51
  go_wp2_with fail
  go_region
  go_wp2
  go_end0
  refine ⟨rfl, ((HH.out.put A[j] hi hgK (HH.out.fits _ (List.getElem_mem _))).put A[i] (by simpa using hj) hgK (HH.out.fits _ (List.getElem_mem _))).drew, ?_⟩
  refine Kept.drew ?_
  have hS : (fun k => (Value.slice (some ⟨g, 0, none⟩) A.length cap).ownBlock = some k) g := rfl
  exact Kept.put (Kept.put (Kept.refl _ w) hS _ _ _ _ _ _ _ _ _ _ _ _ ) hS _ _ _ _ _ _ _ _ _ _ _ _ 
/-- The order of a heap: a function that only lays blocks, and may read blocks of its own (Bk), in a world where E holds. -/
structure Bet (g : Nat) (lb : Array Value) (bt : Ent → Ent → Bool) (E : World → Prop) (Bk : Nat → Prop) : Prop where
  enter : ∀ (args : Array Value) (w : World), (callFunc g args).run Try.prog w = .ok (.enter g args) w
  calls : ∀ (a b : Ent) (w : World), FitsE a → FitsE b → E w → Calls Try.prog g (#[entV a, entV b] ++ lb) w fun e w' => e = .returned (.bool (bt a b)) ∧ Grown w w'
  ranks : Ranks bt
  keep : ∀ (w w' : World), E w → w.heap.size ≤ w'.heap.size → (∀ k, k < w.heap.size → Bk k → w'.heap[k]? = w.heap[k]?) → E w'
  lt : ∀ (w : World), E w → ∀ k, Bk k → k < w.heap.size
abbrev fnV (g : Nat) (lb : Array Value) : Value := .func (.func g) #[] lb
set_option maxRecDepth 100000 in
theorem Bet.grown {g : Nat} {lb : Array Value} {bt : Ent → Ent → Bool} {E : World → Prop} {Bk : Nat → Prop} (b : Bet g lb bt E Bk) (h : E w) (k : Grown w w') : E w' := b.keep w w' h k.below.size fun i hi _ => k.below.block i hi
set_option maxRecDepth 100000 in
theorem Bet.kept {g : Nat} {lb : Array Value} {bt : Ent → Ent → Bool} {E : World → Prop} {Bk S : Nat → Prop} (b : Bet g lb bt E Bk) (h : E w) (k : Kept S w w') (hS : ∀ i, S i → ¬ Bk i) : E w' := b.keep w w' h k.size fun i hi hb => k.block i hi fun hs => hS i hs hb
/-- Is place i there, and better than place j? -/
def aheadB (bt : Ent → Ent → Bool) (A : List Ent) (i j : Nat) : Bool := if h : i < A.length ∧ j < A.length then bt A[i] A[j] else false
set_option maxRecDepth 100000 in
theorem aheadB_yes {bt : Ent → Ent → Bool} {i j : Nat} (hi : i < A.length) (hj : j < A.length) : aheadB bt A i j = bt A[i] A[j] := by unfold aheadB; rw [dif_pos ⟨hi, hj⟩]
set_option maxRecDepth 100000 in
theorem aheadB_no {bt : Ent → Ent → Bool} {i j : Nat} (hi : A.length ≤ i) : aheadB bt A i j = false := by unfold aheadB; rw [dif_neg (by omega)]
set_option maxRecDepth 100000 in
theorem cell_grown_at {a : Addr} {u : Value} (h : w.cell? a = some u) (n : Nat) (os : Array Obj) : (grow (w.drewN n) os).cell? a = some u := cell_grown (World.block_lt_of_cell? w _ h) h n os
set_option maxRecDepth 100000 in
set_option maxHeartbeats 1000000 in
theorem ahead_any {g : Nat} {lb : Array Value} {bt : Ent → Ent → Bool} {E : World → Prop} {Bk : Nat → Prop} (b : Bet g lb bt E Bk) (i j : Nat) (h : Hp w B K (fnV g lb) v A pu pk) (hE : E w) (hij : j < i) (hi2 : i ≤ 1000000) :
    Calls Try.prog 50 #[.pointer (some ⟨K, 0, none⟩), .int .i64 (i : Int), .int .i64 (j : Int)] w fun e w' => e = .returned (.bool (aheadB bt A i j)) ∧ Grown w w' := by
  have HH := Lib.hid h
  obtain ⟨c0, c1, c2, c3⟩ := h.cells
  have m0 := cell_grown_at c0
  have m1 := cell_grown_at c1
  have mixed : Try.prog.follows .mixedOrders = true := by kernel_rfl
  have hmx : ¬ ((j : Int) > (i : Int)) := by omega
  have hmx2 : max (i : Int) (j : Int) = (i : Int) := by omega
  have p0 : (0 : Int) ≤ (i : Int) := by omega
  have p2 : (0 : Int) ≤ (j : Int) := by omega
  by_cases hi : i < A.length
  · obtain ⟨gr, cap, rfl, hc, hB, hgw, hgK⟩ := h.place (by omega)
    have hj : j < A.length := by omega
    obtain ⟨a0, a1, a2, a3, a4, a5, _, _, _, _, _, _⟩ := h.at hi
    obtain ⟨b0, b1, b2, b3, b4, b5, _, _, _, _, _, _⟩ := h.at hj
    have x0 := cell_grown_at a0
    have y0 := cell_grown_at b0
    have x1 := cell_grown_at a1
    have y1 := cell_grown_at b1
    have x2 := cell_grown_at a2
    have y2 := cell_grown_at b2
    have x3 := cell_grown_at a3
    have y3 := cell_grown_at b3
    have x4 := cell_grown_at a4
    have y4 := cell_grown_at b4
    have x5 := cell_grown_at a5
    have y5 := cell_grown_at b5
    have p1 : (i : Int) < (A.length : Int) := by omega
    have p3 : (j : Int) < (A.length : Int) := by omega
    have eg := b.enter
    have hcg : ∀ n os, Calls Try.prog g (#[entV A[i], entV A[j]] ++ lb) (grow (w.drewN n) os) fun e w' => e = .returned (.bool (bt A[i] A[j])) ∧ ∃ q os', w' = grow ((grow (w.drewN n) os).drewN q) os' := fun n os => b.calls _ _ _ (h.fits _ (List.getElem_mem _)) (h.fits _ (List.getElem_mem _)) (b.grown hE (Grown.of w n os))
    rw [aheadB_yes hi hj]
    unfold entV at hcg
    clear h b a0 a1 a2 a3 a4 a5 b0 b1 b2 b3 b4 b5
    generalize bt A[i] A[j] = z at *
    generalize A[i].1 = ai0 at *
    generalize A[i].2.1 = ai1 at *
    generalize A[i].2.2.1 = ai2 at *
    generalize A[i].2.2.2.1 = ai3 at *
    generalize A[i].2.2.2.2.1 = ai4 at *
    generalize A[i].2.2.2.2.2 = ai5 at *
    generalize A[j].1 = aj0 at *
    generalize A[j].2.1 = aj1 at *
    generalize A[j].2.2.1 = aj2 at *
    generalize A[j].2.2.2.1 = aj3 at *
    generalize A[j].2.2.2.2.1 = aj4 at *
    generalize A[j].2.2.2.2.2 = aj5 at *
    go_enter Try.func50, Try.ntmps50
    cases z
    · go_wp2_with fail
      refine wp_region_quiet_grown (by assumption) (by kernel_rfl) ?_
      repeat (first | go_big_quiet_skip | quiet_step (first | (go_at_fn g; refine Calls.grown_of (hcg _ _))))
      refine wpQuiet_nil ?_
      intro _ hw'
      obtain ⟨⟨nq, osq⟩, hw''⟩ := hw'
      subst hw''
      go_wp2
      go_ret
      exact ⟨rfl, Grown.of w nq osq⟩
    · go_wp2_with fail
      refine wp_region_quiet_grown (by assumption) (by kernel_rfl) ?_
      repeat (first | go_big_quiet_skip | quiet_step (first | (go_at_fn g; refine Calls.grown_of (hcg _ _))))
      refine wpQuiet_nil ?_
      intro _ hw'
      obtain ⟨⟨nq, osq⟩, hw''⟩ := hw'
      subst hw''
      go_wp2
      go_ret
      exact ⟨rfl, Grown.of w nq osq⟩
  · rw [aheadB_no (by omega)]
    obtain ⟨a, cap, rfl, hc⟩ := h.row.form
    have p1 : ¬ (i : Int) < (A.length : Int) := by omega
    clear h
    go_enter Try.func50, Try.ntmps50
    go_wp2_with fail
    refine wp_region_quiet_grown (by assumption) (by kernel_rfl) ?_
    repeat (first | go_big_quiet_skip | quiet_step (fail))
    refine wpQuiet_nil ?_
    intro _ hw'
    obtain ⟨⟨nq, osq⟩, hw''⟩ := hw'
    subst hw''
    go_wp2
    go_ret
    exact ⟨rfl, Grown.of w nq osq⟩
end Go.Proofs.Ytbnekkcjkdghcaa
