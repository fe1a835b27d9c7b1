/- Texts in one: EHeapO, EHeapS, EHeapC. -/
import Derived.Test.YtnmacalbbmeedaaGreatQ03
import Derived.Test.YtnmacalbbmeedaaGreatQ24
import Derived.BigRegion
import Derived.Deep.RegionHeld3
import Derived.Laws.ResultCell
/- A heap in memory (its order may read memory); two places exchanged, and compared. By gen_heap.py. -/
namespace Go.Proofs.YtnmacalbbmeedaaGreat
open Go.RowKit Go.Shelf
open Go.Sort (grow grow_empty grow_grow alloc_eq_grow heap_grow_old)

set_option maxRecDepth 100000 in
/-- One cell of one element of an owned row, written: the element y is the old one with that cell turned. -/
theorem ownE.gstore {α : Type} {R : Elt α} {w : World} {b g n cap j i : Nat} {L : List α} {u : Value} (h : ownE R w b (.slice (some ⟨g, 0, none⟩) n cap) L) (y : α) (hj : j < L.length) (hi : i < R.n) (hy : R.enc y = (R.enc L[j]).set i u) :
    ownE R (w.setCell ⟨g, j * R.n + i, none⟩ u) b (.slice (some ⟨g, 0, none⟩) n cap) (L.set j y) := by
  rcases h.2 with ⟨h0, _⟩ | ⟨g', cap', cur, hv, hb, hg, h1, h2, h3, h4⟩
  · cases h0
  · cases hv
    refine ⟨ecells_len _, .inr ⟨g, cap, _, by rw [List.length_set], hb, heap_setCell_at hg u, by rw [List.length_set]; exact h1, h2, by simpa using h3, ?_⟩⟩
    rw [Array.toList_setIfInBounds, List.length_set, List.take_set, h4, ecells_set y hy hi hj rfl]
set_option maxRecDepth 100000 in
theorem ownE.gcells {α : Type} {R : Elt α} {w : World} {b g n cap j i : Nat} {L : List α} (h : ownE R w b (.slice (some ⟨g, 0, none⟩) n cap) L) (hj : j < L.length) (hi : i < R.n) :
    w.cell? ⟨g, j * R.n + i, none⟩ = (R.enc L[j])[i]? ∧ w.frozen? ⟨g, j * R.n + i, none⟩ = false := by
  rcases h.2 with ⟨h0, _⟩ | ⟨g', cap', cur, hv, hb, hg, h1, h2, h3, h4⟩
  · cases h0
  · cases hv
    refine ⟨?_, Lib.frozen_of_heap hg _⟩
    have hi2 : j * R.n + i < L.length * R.n := by
      have : (j + 1) * R.n ≤ L.length * R.n := Nat.mul_le_mul_right _ hj
      rw [Nat.add_mul] at this
      omega
    rw [cell_of_row w g _ cur R.ty (0, 0) hg, ← ecells_at L hj hi, ← h4, List.getElem?_take_of_lt hi2]
    simp
/-- Block K is a heap: its order, its items, how many were pushed, and the most that there ever were. -/
structure Hp (w : World) (B K : Nat) (fv v : Value) (A : List Ent) (pu pk : Int) : Prop where
  box : w.heap[K]? = some (.cells #[fv, v, .int .i64 pu, .int .i64 pk] 142 (0, 0))
  row : ownE entE w B v A
  few : A.length ≤ 100000
  base : B ≤ K
  fits : ∀ x ∈ A, FitsE x
variable {w w' : World} {B K : Nat} {fv v : Value} {A : List Ent} {pu pk : Int}
set_option maxRecDepth 100000 in
theorem Hp.ltK (h : Hp w B K fv v A pu pk) : K < w.heap.size := (Array.getElem?_eq_some_iff.1 h.box).1
set_option maxRecDepth 100000 in
theorem Hp.kept (h : Hp w B K fv v A pu pk) (hk : ∀ k, k < w.heap.size → mine K v k → w'.heap[k]? = w.heap[k]?) : Hp w' B K fv v A pu pk :=
  ⟨(hk K h.ltK (.inl rfl)).trans h.box, h.row.kept fun g hg => hk g (h.row.lt g hg).2 (.inr hg.symm), h.few, h.base, h.fits⟩
set_option maxRecDepth 100000 in
theorem Hp.below (h : Hp w B K fv v A pu pk) (hb : Below w.heap.size w w') : Hp w' B K fv v A pu pk := h.kept fun k hk _ => hb.block k hk
set_option maxRecDepth 100000 in
theorem Hp.grown (h : Hp w B K fv v A pu pk) (hg : Grown w w') : Hp w' B K fv v A pu pk := h.below hg.below
set_option maxRecDepth 100000 in
theorem Hp.drewN (h : Hp w B K fv v A pu pk) (n : Nat) : Hp (w.drewN n) B K fv v A pu pk := ⟨h.box, h.row, h.few, h.base, h.fits⟩
set_option maxRecDepth 100000 in
theorem Hp.drew (h : Hp w B K fv v A pu pk) : Hp w.drew B K fv v A pu pk := ⟨h.box, h.row, h.few, h.base, h.fits⟩
set_option maxRecDepth 100000 in
theorem Hp.cells (h : Hp w B K fv v A pu pk) : w.cell? ⟨K, 0, none⟩ = some fv ∧ w.cell? ⟨K, 1, none⟩ = some v ∧ w.cell? ⟨K, 2, none⟩ = some (.int .i64 pu) ∧ w.cell? ⟨K, 3, none⟩ = some (.int .i64 pk) := by
  refine ⟨?_, ?_, ?_, ?_⟩ <;> · rw [cell_of_row w K _ _ 142 (0, 0) h.box]; rfl
set_option maxRecDepth 100000 in
theorem Hp.frozen (h : Hp w B K fv v A pu pk) (i : Nat) : w.frozen? ⟨K, i, none⟩ = false := Lib.frozen_of_heap h.box _
set_option maxRecDepth 100000 in
theorem Hp.apart (h : Hp w B K fv v A pu pk) : v.ownBlock ≠ some K := by
  intro e
  obtain ⟨cs, h1⟩ := h.row.block K e
  have h2 := h.box
  rw [h1] at h2
  have := congrArg (fun o => match o with | some (Obj.cells _ t _) => t | _ => 0) h2
  simp [entE] at this
set_option maxRecDepth 100000 in
/-- Where the items lie. -/
theorem Hp.place (h : Hp w B K fv v A pu pk) (h0 : 0 < A.length) : ∃ g cap, v = .slice (some ⟨g, 0, none⟩) A.length cap ∧ A.length ≤ cap ∧ B ≤ g ∧ g < w.heap.size ∧ g ≠ K := by
  obtain ⟨a, cap, rfl, hc⟩ := h.row.form
  obtain ⟨g, rfl, hg⟩ := ownE_some h.row h0
  exact ⟨g, cap, rfl, hc, hg, (h.row.lt g rfl).2, fun e => h.apart (by rw [e]; rfl)⟩
set_option maxRecDepth 100000 in
theorem Hp.at {g n cap : Nat} (h : Hp w B K fv (.slice (some ⟨g, 0, none⟩) n cap) A pu pk) {j : Nat} (hj : j < A.length) :
    w.cell? ⟨g, j * 6, none⟩ = some (.int .i64 A[j].1) ∧ w.cell? ⟨g, j * 6 + 1, none⟩ = some (.int .i64 A[j].2.1) ∧ w.cell? ⟨g, j * 6 + 2, none⟩ = some (.int .i64 A[j].2.2.1) ∧ w.cell? ⟨g, j * 6 + 3, none⟩ = some (.int .i64 A[j].2.2.2.1) ∧ w.cell? ⟨g, j * 6 + 4, none⟩ = some (.int .i64 A[j].2.2.2.2.1) ∧ w.cell? ⟨g, j * 6 + 5, none⟩ = some (.int .i64 A[j].2.2.2.2.2) ∧ w.frozen? ⟨g, j * 6, none⟩ = false ∧ w.frozen? ⟨g, j * 6 + 1, none⟩ = false ∧ w.frozen? ⟨g, j * 6 + 2, none⟩ = false ∧ w.frozen? ⟨g, j * 6 + 3, none⟩ = false ∧ w.frozen? ⟨g, j * 6 + 4, none⟩ = false ∧ w.frozen? ⟨g, j * 6 + 5, none⟩ = false :=
  ⟨(h.row.gcells (i := 0) hj (by decide)).1, (h.row.gcells (i := 1) hj (by decide)).1, (h.row.gcells (i := 2) hj (by decide)).1, (h.row.gcells (i := 3) hj (by decide)).1, (h.row.gcells (i := 4) hj (by decide)).1, (h.row.gcells (i := 5) hj (by decide)).1, (h.row.gcells (i := 0) hj (by decide)).2, (h.row.gcells (i := 1) hj (by decide)).2, (h.row.gcells (i := 2) hj (by decide)).2, (h.row.gcells (i := 3) hj (by decide)).2, (h.row.gcells (i := 4) hj (by decide)).2, (h.row.gcells (i := 5) hj (by decide)).2⟩
set_option maxRecDepth 100000 in
theorem ownE.gput {w : World} {b g n cap j : Nat} {L : List Ent} (h : ownE entE w b (.slice (some ⟨g, 0, none⟩) n cap) L) (x : Ent) (hj : j < L.length) :
    ownE entE ((((((w.setCell ⟨g, j * 6, none⟩ (.int .i64 x.1)).setCell ⟨g, j * 6 + 1, none⟩ (.int .i64 x.2.1)).setCell ⟨g, j * 6 + 2, none⟩ (.int .i64 x.2.2.1)).setCell ⟨g, j * 6 + 3, none⟩ (.int .i64 x.2.2.2.1)).setCell ⟨g, j * 6 + 4, none⟩ (.int .i64 x.2.2.2.2.1)).setCell ⟨g, j * 6 + 5, none⟩ (.int .i64 x.2.2.2.2.2)) b (.slice (some ⟨g, 0, none⟩) n cap) (L.set j x) := by
  have h0 := h.gstore (i := 0) (u := .int .i64 x.1) (x.1, L[j].2.1, L[j].2.2.1, L[j].2.2.2.1, L[j].2.2.2.2.1, L[j].2.2.2.2.2) hj (by decide) rfl
  have h1 := h0.gstore (j := j) (i := 1) (u := .int .i64 x.2.1) (x.1, x.2.1, L[j].2.2.1, L[j].2.2.2.1, L[j].2.2.2.2.1, L[j].2.2.2.2.2) (by simpa using hj) (by decide) (by first | rfl | (rw [List.getElem_set_self]; rfl) | (simp; rfl))
  rw [List.set_set] at h1
  have h2 := h1.gstore (j := j) (i := 2) (u := .int .i64 x.2.2.1) (x.1, x.2.1, x.2.2.1, L[j].2.2.2.1, L[j].2.2.2.2.1, L[j].2.2.2.2.2) (by simpa using hj) (by decide) (by first | rfl | (rw [List.getElem_set_self]; rfl) | (simp; rfl))
  rw [List.set_set] at h2
  have h3 := h2.gstore (j := j) (i := 3) (u := .int .i64 x.2.2.2.1) (x.1, x.2.1, x.2.2.1, x.2.2.2.1, L[j].2.2.2.2.1, L[j].2.2.2.2.2) (by simpa using hj) (by decide) (by first | rfl | (rw [List.getElem_set_self]; rfl) | (simp; rfl))
  rw [List.set_set] at h3
  have h4 := h3.gstore (j := j) (i := 4) (u := .int .i64 x.2.2.2.2.1) (x.1, x.2.1, x.2.2.1, x.2.2.2.1, x.2.2.2.2.1, L[j].2.2.2.2.2) (by simpa using hj) (by decide) (by first | rfl | (rw [List.getElem_set_self]; rfl) | (simp; rfl))
  rw [List.set_set] at h4
  have h5 := h4.gstore (j := j) (i := 5) (u := .int .i64 x.2.2.2.2.2) x (by simpa using hj) (by decide) (by first | rfl | (rw [List.getElem_set_self]; rfl) | (simp; rfl))
  rw [List.set_set] at h5
  exact h5
set_option maxRecDepth 100000 in
theorem Hp.put {g n cap : Nat} (h : Hp w B K fv (.slice (some ⟨g, 0, none⟩) n cap) A pu pk) (x : Ent) {j : Nat} (hj : j < A.length) (hgK : g ≠ K) (hx : FitsE x) :
    Hp ((((((w.setCell ⟨g, j * 6, none⟩ (.int .i64 x.1)).setCell ⟨g, j * 6 + 1, none⟩ (.int .i64 x.2.1)).setCell ⟨g, j * 6 + 2, none⟩ (.int .i64 x.2.2.1)).setCell ⟨g, j * 6 + 3, none⟩ (.int .i64 x.2.2.2.1)).setCell ⟨g, j * 6 + 4, none⟩ (.int .i64 x.2.2.2.2.1)).setCell ⟨g, j * 6 + 5, none⟩ (.int .i64 x.2.2.2.2.2)) B K fv (.slice (some ⟨g, 0, none⟩) n cap) (A.set j x) pu pk :=
  ⟨((((((Below.heap_setCell _ ⟨g, _, none⟩ _ K (fun e => hgK e.symm)).trans (Below.heap_setCell _ ⟨g, _, none⟩ _ K (fun e => hgK e.symm))).trans (Below.heap_setCell _ ⟨g, _, none⟩ _ K (fun e => hgK e.symm))).trans (Below.heap_setCell _ ⟨g, _, none⟩ _ K (fun e => hgK e.symm))).trans (Below.heap_setCell _ ⟨g, _, none⟩ _ K (fun e => hgK e.symm))).trans (Below.heap_setCell _ ⟨g, _, none⟩ _ K (fun e => hgK e.symm))).trans h.box, h.row.gput x hj, by rw [List.length_set]; exact h.few, h.base, fun y hy => by
    rcases List.mem_or_eq_of_mem_set hy with hy | rfl
    · exact h.fits y hy
    · exact hx⟩
set_option maxRecDepth 100000 in
theorem Kept.put {S : Nat → Prop} {a w : World} {g : Nat} (h : Kept S a w) (hg : S g) (i0 i1 i2 i3 i4 i5 : Nat) (x0 x1 x2 x3 x4 x5 : Value) : Kept S a ((((((w.setCell ⟨g, i0, none⟩ x0).setCell ⟨g, i1, none⟩ x1).setCell ⟨g, i2, none⟩ x2).setCell ⟨g, i3, none⟩ x3).setCell ⟨g, i4, none⟩ x4).setCell ⟨g, i5, none⟩ x5) := by
  exact ((((((h.setCell ⟨g, i0, none⟩ x0 fun _ => hg).setCell ⟨g, i1, none⟩ x1 fun _ => hg).setCell ⟨g, i2, none⟩ x2 fun _ => hg).setCell ⟨g, i3, none⟩ x3 fun _ => hg).setCell ⟨g, i4, none⟩ x4 fun _ => hg).setCell ⟨g, i5, none⟩ x5 fun _ => hg)
set_option maxRecDepth 100000 in
set_option maxHeartbeats 2000000 in
theorem swap_any (i j : Nat) (h : Hp w B K fv v A pu pk) (hi : i < A.length) (hj : j < A.length) (hne : i ≠ j) :
    Calls Tryz.prog 115 #[.pointer (some ⟨K, 0, none⟩), .int .i64 (i : Int), .int .i64 (j : Int)] w fun e w' => e = .returned (.tuple #[]) ∧ Hp w' B K fv v (exch A i j hi hj) pu pk ∧ Kept (fun k => v.ownBlock = some k) w w' := by
  obtain ⟨g, cap, rfl, hc, hB, hgw, hgK⟩ := h.place (by omega)
  have HH := Lib.hid h
  obtain ⟨c0, c1, c2, c3⟩ := h.cells
  obtain ⟨a0, a1, a2, a3, a4, a5, a6, a7, a8, a9, a10, a11⟩ := h.at hi
  obtain ⟨b0, b1, b2, b3, b4, b5, b6, b7, b8, b9, b10, b11⟩ := h.at hj
  have p0 : (0 : Int) ≤ (i : Int) := by omega
  have p1 : (i : Int) < (A.length : Int) := by omega
  have p2 : (0 : Int) ≤ (j : Int) := by omega
  have p3 : (j : Int) < (A.length : Int) := by omega
  clear h
  go_enter Tryz.func115, Tryz.ntmps115
  go_wp2_with fail
  go_region
  go_wp2
  go_end0
  refine ⟨rfl, ((HH.out.put A[j] hi hgK (HH.out.fits _ (List.getElem_mem _))).put A[i] (by simpa using hj) hgK (HH.out.fits _ (List.getElem_mem _))).drew, ?_⟩
  refine Kept.drew ?_
  have hS : (fun k => (Value.slice (some ⟨g, 0, none⟩) A.length cap).ownBlock = some k) g := rfl
  exact Kept.put (Kept.put (Kept.refl _ w) hS _ _ _ _ _ _ _ _ _ _ _ _ ) hS _ _ _ _ _ _ _ _ _ _ _ _ 
/-- The order of a heap: a function that only lays blocks, and may read blocks of its own (Bk), in a world where E holds. -/
structure Bet (g : Nat) (lb : Array Value) (bt : Ent → Ent → Bool) (E : World → Prop) (Bk : Nat → Prop) : Prop where
  enter : ∀ (args : Array Value) (w : World), (callFunc g args).run Tryz.prog w = .ok (.enter g args) w
  calls : ∀ (a b : Ent) (w : World), FitsE a → FitsE b → E w → Calls Tryz.prog g (#[entV a, entV b] ++ lb) w fun e w' => e = .returned (.bool (bt a b)) ∧ Grown w w'
  ranks : Ranks bt
  keep : ∀ (w w' : World), E w → w.heap.size ≤ w'.heap.size → (∀ k, k < w.heap.size → Bk k → w'.heap[k]? = w.heap[k]?) → E w'
  lt : ∀ (w : World), E w → ∀ k, Bk k → k < w.heap.size
abbrev fnV (g : Nat) (lb : Array Value) : Value := .func (.func g) #[] lb
set_option maxRecDepth 100000 in
theorem Bet.grown {g : Nat} {lb : Array Value} {bt : Ent → Ent → Bool} {E : World → Prop} {Bk : Nat → Prop} (b : Bet g lb bt E Bk) (h : E w) (k : Grown w w') : E w' := b.keep w w' h k.below.size fun i hi _ => k.below.block i hi
set_option maxRecDepth 100000 in
theorem Bet.kept {g : Nat} {lb : Array Value} {bt : Ent → Ent → Bool} {E : World → Prop} {Bk S : Nat → Prop} (b : Bet g lb bt E Bk) (h : E w) (k : Kept S w w') (hS : ∀ i, S i → ¬ Bk i) : E w' := b.keep w w' h k.size fun i hi hb => k.block i hi fun hs => hS i hs hb
/-- Is place i there, and better than place j? -/
def aheadB (bt : Ent → Ent → Bool) (A : List Ent) (i j : Nat) : Bool := if h : i < A.length ∧ j < A.length then bt A[i] A[j] else false
set_option maxRecDepth 100000 in
theorem aheadB_yes {bt : Ent → Ent → Bool} {i j : Nat} (hi : i < A.length) (hj : j < A.length) : aheadB bt A i j = bt A[i] A[j] := by unfold aheadB; rw [dif_pos ⟨hi, hj⟩]
set_option maxRecDepth 100000 in
theorem aheadB_no {bt : Ent → Ent → Bool} {i j : Nat} (hi : A.length ≤ i) : aheadB bt A i j = false := by unfold aheadB; rw [dif_neg (by omega)]
set_option maxRecDepth 100000 in
theorem cell_grown_at {a : Addr} {u : Value} (h : w.cell? a = some u) (n : Nat) (os : Array Obj) : (grow (w.drewN n) os).cell? a = some u := cell_grown (World.block_lt_of_cell? w _ h) h n os
set_option maxRecDepth 100000 in
set_option maxHeartbeats 1000000 in
theorem ahead_any {g : Nat} {lb : Array Value} {bt : Ent → Ent → Bool} {E : World → Prop} {Bk : Nat → Prop} (b : Bet g lb bt E Bk) (i j : Nat) (h : Hp w B K (fnV g lb) v A pu pk) (hE : E w) (hij : j < i) (hi2 : i ≤ 1000000) :
    Calls Tryz.prog 114 #[.pointer (some ⟨K, 0, none⟩), .int .i64 (i : Int), .int .i64 (j : Int)] w fun e w' => e = .returned (.bool (aheadB bt A i j)) ∧ Grown w w' := by
  have HH := Lib.hid h
  obtain ⟨c0, c1, c2, c3⟩ := h.cells
  have m0 := cell_grown_at c0
  have m1 := cell_grown_at c1
  have mixed : Tryz.prog.follows .mixedOrders = true := by kernel_rfl
  have hmx : ¬ ((j : Int) > (i : Int)) := by omega
  have hmx2 : max (i : Int) (j : Int) = (i : Int) := by omega
  have p0 : (0 : Int) ≤ (i : Int) := by omega
  have p2 : (0 : Int) ≤ (j : Int) := by omega
  by_cases hi : i < A.length
  · obtain ⟨gr, cap, rfl, hc, hB, hgw, hgK⟩ := h.place (by omega)
    have hj : j < A.length := by omega
    obtain ⟨a0, a1, a2, a3, a4, a5, _, _, _, _, _, _⟩ := h.at hi
    obtain ⟨b0, b1, b2, b3, b4, b5, _, _, _, _, _, _⟩ := h.at hj
    have x0 := cell_grown_at a0
    have y0 := cell_grown_at b0
    have x1 := cell_grown_at a1
    have y1 := cell_grown_at b1
    have x2 := cell_grown_at a2
    have y2 := cell_grown_at b2
    have x3 := cell_grown_at a3
    have y3 := cell_grown_at b3
    have x4 := cell_grown_at a4
    have y4 := cell_grown_at b4
    have x5 := cell_grown_at a5
    have y5 := cell_grown_at b5
    have p1 : (i : Int) < (A.length : Int) := by omega
    have p3 : (j : Int) < (A.length : Int) := by omega
    have eg := b.enter
    have hcg : ∀ n os, Calls Tryz.prog g (#[entV A[i], entV A[j]] ++ lb) (grow (w.drewN n) os) fun e w' => e = .returned (.bool (bt A[i] A[j])) ∧ ∃ q os', w' = grow ((grow (w.drewN n) os).drewN q) os' := fun n os => b.calls _ _ _ (h.fits _ (List.getElem_mem _)) (h.fits _ (List.getElem_mem _)) (b.grown hE (Grown.of w n os))
    rw [aheadB_yes hi hj]
    unfold entV at hcg
    clear h b a0 a1 a2 a3 a4 a5 b0 b1 b2 b3 b4 b5
    generalize bt A[i] A[j] = z at *
    generalize A[i].1 = ai0 at *
    generalize A[i].2.1 = ai1 at *
    generalize A[i].2.2.1 = ai2 at *
    generalize A[i].2.2.2.1 = ai3 at *
    generalize A[i].2.2.2.2.1 = ai4 at *
    generalize A[i].2.2.2.2.2 = ai5 at *
    generalize A[j].1 = aj0 at *
    generalize A[j].2.1 = aj1 at *
    generalize A[j].2.2.1 = aj2 at *
    generalize A[j].2.2.2.1 = aj3 at *
    generalize A[j].2.2.2.2.1 = aj4 at *
    generalize A[j].2.2.2.2.2 = aj5 at *
    go_enter Tryz.func114, Tryz.ntmps114
    cases z
    · go_wp2_with fail
      refine wp_region_quiet_grown (by assumption) (by kernel_rfl) ?_
      repeat (first | go_big_quiet_skip | quiet_step (first | (go_at_fn g; refine Calls.grown_of (hcg _ _))))
      refine wpQuiet_nil ?_
      intro _ hw'
      obtain ⟨⟨nq, osq⟩, hw''⟩ := hw'
      subst hw''
      go_wp2
      go_ret
      exact ⟨rfl, Grown.of w nq osq⟩
    · go_wp2_with fail
      refine wp_region_quiet_grown (by assumption) (by kernel_rfl) ?_
      repeat (first | go_big_quiet_skip | quiet_step (first | (go_at_fn g; refine Calls.grown_of (hcg _ _))))
      refine wpQuiet_nil ?_
      intro _ hw'
      obtain ⟨⟨nq, osq⟩, hw''⟩ := hw'
      subst hw''
      go_wp2
      go_ret
      exact ⟨rfl, Grown.of w nq osq⟩
  · rw [aheadB_no (by omega)]
    obtain ⟨a, cap, rfl, hc⟩ := h.row.form
    have p1 : ¬ (i : Int) < (A.length : Int) := by omega
    clear h
    go_enter Tryz.func114, Tryz.ntmps114
    go_wp2_with fail
    refine wp_region_quiet_grown (by assumption) (by kernel_rfl) ?_
    repeat (first | go_big_quiet_skip | quiet_step (fail))
    refine wpQuiet_nil ?_
    intro _ hw'
    obtain ⟨⟨nq, osq⟩, hw''⟩ := hw'
    subst hw''
    go_wp2
    go_ret
    exact ⟨rfl, Grown.of w nq osq⟩
end Go.Proofs.YtnmacalbbmeedaaGreat
/- What rises, and what sinks, in memory. -/
namespace Go.Proofs.YtnmacalbbmeedaaGreat
open Go.RowKit Go.Shelf
open Go.Sort (grow grow_empty grow_grow alloc_eq_grow heap_grow_old)
variable {w w' : World} {B K : Nat} {fv v : Value} {A : List Ent} {pu pk : Int} {bt : Ent → Ent → Bool} {E : World → Prop} {Bk : Nat → Prop}

set_option maxRecDepth 100000 in
theorem aheadB_true {i j : Nat} (h : aheadB bt A i j = true) : ∃ (hi : i < A.length) (hj : j < A.length), bt A[i] A[j] = true := by
  unfold aheadB at h
  split at h
  · rename_i h2; exact ⟨h2.1, h2.2, h⟩
  · cases h
set_option maxRecDepth 100000 in
theorem aheadB_false {i j : Nat} (h : aheadB bt A i j = false) (hi : i < A.length) (hj : j < A.length) : bt A[i] A[j] = false := by rwa [aheadB_yes hi hj] at h
/-- The one below place p that the other one isn't better than. -/
def Pick (bt : Ent → Ent → Bool) (A : List Ent) (p c : Nat) : Prop := (aheadB bt A (2 * p + 2) (2 * p + 1) = true ∧ c = 2 * p + 2) ∨ (aheadB bt A (2 * p + 2) (2 * p + 1) = false ∧ c = 2 * p + 1)
set_option maxRecDepth 100000 in
theorem pick_stop (R : Ranks bt) {p c : Nat} (h : Pick bt A p c) (hn : aheadB bt A c p = false) : ∀ i (hi : i < A.length) (hq : p < A.length), Kid p i → bt A[i] A[p] = false := by
  intro i hi hq hk
  rcases h with ⟨h1, rfl⟩ | ⟨h1, rfl⟩
  · obtain ⟨h2, h3, h4⟩ := aheadB_true h1
    have h5 := aheadB_false hn h2 hq
    rcases hk with rfl | rfl
    · exact R.ntr _ _ _ (R.asym _ _ h4) h5
    · exact h5
  · rcases hk with rfl | rfl
    · exact aheadB_false hn hi hq
    · exact R.ntr _ _ _ (aheadB_false h1 hi (by omega)) (aheadB_false hn (by omega) hq)
set_option maxRecDepth 100000 in
theorem pick_go (R : Ranks bt) {k p c : Nat} (h : Pick bt A p c) (hy : aheadB bt A c p = true) (hS : Sk bt A k p) (hk : k ≤ p) : ∃ (hc : c < A.length) (hp : p < A.length), Sk bt (exch A c p hc hp) k c := by
  obtain ⟨hc, hp, hb⟩ := aheadB_true hy
  refine ⟨hc, hp, sk_step R hS hp hc ?_ hk ?_ hb⟩
  · rcases h with ⟨_, rfl⟩ | ⟨_, rfl⟩
    · exact .inr rfl
    · exact .inl rfl
  · intro s hs hks
    rcases h with ⟨h1, rfl⟩ | ⟨h1, rfl⟩
    · obtain ⟨h2, h3, h4⟩ := aheadB_true h1
      rcases hks with rfl | rfl
      · exact R.asym _ _ h4
      · exact R.irr _
    · rcases hks with rfl | rfl
      · exact R.irr _
      · exact aheadB_false h1 hs hc
/-- Behind what has risen or sunk. -/
def SinkRet (w : World) (B K : Nat) (fv v : Value) (A : List Ent) (pu pk : Int) (bt : Ent → Ent → Bool) (k : Nat) (e : Ending) (w' : World) : Prop :=
  e = .returned (.tuple #[]) ∧ ∃ A', A'.Perm A ∧ HeapFrom bt A' k ∧ Hp w' B K fv v A' pu pk ∧ Kept (fun k => v.ownBlock = some k) w w'
def SinkRel (w : World) (B K : Nat) (fv v : Value) (A : List Ent) (pu pk : Int) (bt : Ent → Ent → Bool) (k : Nat) (i : Value) (wr : World) : Prop :=
  ∃ (p : Nat) (A1 : List Ent), i = .int .i64 (p : Int) ∧ k ≤ p ∧ p ≤ 100000 ∧ A1.Perm A ∧ Sk bt A1 k p ∧ Hp wr B K fv v A1 pu pk ∧ Kept (fun k => v.ownBlock = some k) w wr
def RiseRel (w : World) (B K : Nat) (fv v : Value) (A : List Ent) (pu pk : Int) (bt : Ent → Ent → Bool) (i : Value) (wr : World) : Prop :=
  ∃ (p : Nat) (A1 : List Ent), i = .int .i64 (p : Int) ∧ p < A1.length ∧ A1.Perm A ∧ Rk bt A1 p ∧ Hp wr B K fv v A1 pu pk ∧ Kept (fun k => v.ownBlock = some k) w wr
set_option maxRecDepth 100000 in
theorem Kept.grow {S : Nat → Prop} {a b c : World} (h : Kept S a b) (k : Grown b c) : Kept S a c := h.trans (Kept.of_below (S := S) k.below (Nat.le_refl _)) fun _ _ h => h
set_option maxRecDepth 100000 in
set_option maxHeartbeats 2000000 in
theorem rise_any {g : Nat} {lb : Array Value} (b : Bet g lb bt E Bk) (p : Nat) (h : Hp w B K (fnV g lb) v A pu pk) (hE : E w) (hap : ∀ k, mine K v k → ¬ Bk k) (hR : Rk bt A p) (hp : p < A.length) :
    Calls Tryz.prog 93 #[.pointer (some ⟨K, 0, none⟩), .int .i64 (p : Int)] w (SinkRet w B K (fnV g lb) v A pu pk bt 0) := by
  have HB := Lib.hid b
  have HE := Lib.hid hE
  have HAP : Hid (∀ k, v.ownBlock = some k → ¬ Bk k) := Lib.hid fun k hk => hap k (.inr hk.symm)
  have HS : Hid (RiseRel w B K (fnV g lb) v A pu pk bt (.int .i64 (p : Int)) w) := Lib.hid ⟨p, A, rfl, hp, List.Perm.refl _, hR, h, Kept.refl _ _⟩
  have hl : p ≤ 1000000 := by have := h.few; omega
  clear h hR hp b hE hap
  go_enter Tryz.func93, Tryz.ntmps93
  go_wp2
  go_loopw [1] (fun i wr => RiseRel w B K (fnV g lb) v A pu pk bt i wr) (fun i _ => (intOf i).toNat)
  case atStart => exact HS.out
  case round =>
    clear HS hl
    obtain ⟨p, A1, rfl, hp, hpm, hR, hh, hk⟩ := hrel
    have HP := Lib.hid hpm; have HR := Lib.hid hR; have HH := Lib.hid hh; have HK := Lib.hid hk; have HPL := Lib.hid hp
    have hl : p < 1000000 := by have := hh.few; omega
    clear hpm hR hh hk hp
    by_cases h0 : p = 0
    · subst h0
      have h00 : ¬ (0 : Int) < ((0 : Nat) : Int) := by omega
      go_wp2
      go_end0
      exact ⟨rfl, A1, HP.out, rk_top HR.out, HH.out, HK.out⟩
    · obtain ⟨q, hq⟩ : ∃ q, q = (p - 1) / 2 := ⟨_, rfl⟩
      have HKD : Hid (Kid q p) := Lib.hid (by unfold Kid; omega)
      have hqp : q < p := by omega
      have g0 : (0 : Int) < (p : Int) := by omega
      have hw1 : IntKind.i64.wrap ((p : Int) - 1) = (p : Int) - 1 := IntWalk.i64_in _ (by omega)
      have hw2 : ((p : Int) - 1).tdiv 2 = (q : Int) := by rw [Int.tdiv_eq_ediv_of_nonneg (by omega)]; omega
      have hw3 : IntKind.i64.wrap (q : Int) = (q : Int) := IntWalk.i64_in _ (by omega)
      have cA := ahead_any HB.out p q HH.out (HB.out.kept HE.out HK.out HAP.out) hqp (by omega)
      clear hq
      go_wp2_with fail
      refine cA.mono ?_
      rintro e w1 ⟨rfl, hg⟩
      have HG := Lib.hid hg
      clear hg cA
      have HH1 := Lib.hid (HH.out.grown HG.out)
      have hpl := HPL.out
      cases hz : aheadB bt A1 p q with
      | false =>
        have HZ := Lib.hid hz
        clear hz
        go_wp2
        go_end0
        exact ⟨rfl, A1, HP.out, rk_stop HR.out hpl (by omega) HKD.out (aheadB_false HZ.out hpl (by omega)), HH1.out, HK.out.grow HG.out⟩
      | true =>
        have HZ := Lib.hid hz
        clear hz
        have cS := swap_any p q HH1.out hpl (by omega) (by omega)
        go_wp2_with fail
        refine cS.mono ?_
        rintro e w2 ⟨rfl, h2, hk2⟩
        have HH2 := Lib.hid h2; have HK2 := Lib.hid hk2
        clear h2 hk2 cS
        go_wp2
        go_roundw
        case rel => exact ⟨q, _, rfl, by rw [exch_len]; have := HPL.out; omega, (exch_perm _ _ _).trans HP.out, rk_step HB.out.ranks HR.out _ _ HKD.out (by obtain ⟨_, _, h⟩ := aheadB_true HZ.out; exact h), HH2.out, (HK.out.grow HG.out).trans HK2.out fun _ _ h => h⟩
        case measure => simp [intOf]; omega
set_option maxRecDepth 100000 in
set_option maxHeartbeats 4000000 in
theorem sink_any {g : Nat} {lb : Array Value} (b : Bet g lb bt E Bk) (k : Nat) (h : Hp w B K (fnV g lb) v A pu pk) (hE : E w) (hap : ∀ k, mine K v k → ¬ Bk k) (hS : Sk bt A k k) (hk : k ≤ 100000) :
    Calls Tryz.prog 116 #[.pointer (some ⟨K, 0, none⟩), .int .i64 (k : Int)] w (SinkRet w B K (fnV g lb) v A pu pk bt k) := by
  have HB := Lib.hid b
  have HE := Lib.hid hE
  have HAP : Hid (∀ k, v.ownBlock = some k → ¬ Bk k) := Lib.hid fun k hk => hap k (.inr hk.symm)
  have HS : Hid (SinkRel w B K (fnV g lb) v A pu pk bt k (.int .i64 (k : Int)) w) := Lib.hid ⟨k, A, rfl, Nat.le_refl _, hk, List.Perm.refl _, hS, h, Kept.refl _ _⟩
  have HF := Lib.hid h.few
  clear h hS hk b hE hap
  go_enter Tryz.func116, Tryz.ntmps116
  go_wp2
  go_loopw [1] (fun i wr => SinkRel w B K (fnV g lb) v A pu pk bt k i wr) (fun i _ => A.length - (intOf i).toNat)
  case atStart => exact HS.out
  case round =>
    clear HS
    obtain ⟨p, A1, rfl, hkp, hp, hpm, hS, hh, hk⟩ := hrel
    have HP := Lib.hid hpm; have HS := Lib.hid hS; have HH := Lib.hid hh; have HK := Lib.hid hk; have HKP := Lib.hid hkp
    clear hpm hS hh hk hkp
    obtain ⟨c, hc⟩ : ∃ c, c = 2 * p + 1 := ⟨_, rfl⟩
    have hw1 : IntKind.i64.wrap (2 * (p : Int)) = 2 * (p : Int) := IntWalk.i64_in _ (by omega)
    have hw2 : 2 * (p : Int) + 1 = (c : Int) := by omega
    have hw3 : IntKind.i64.wrap (c : Int) = (c : Int) := IntWalk.i64_in _ (by omega)
    have hcm : c ≤ 200001 := by omega
    have HC := Lib.hid hc
    obtain ⟨d, hd⟩ : ∃ d, d = c + 1 := ⟨_, rfl⟩
    have hw4 : (c : Int) + 1 = (d : Int) := by omega
    have hw5 : IntKind.i64.wrap (d : Int) = (d : Int) := IntWalk.i64_in _ (by omega)
    have cA := ahead_any HB.out d c HH.out (HB.out.kept HE.out HK.out HAP.out) (by omega) (by omega)
    have HD := Lib.hid hd
    clear hc hd
    go_wp2_with fail
    refine cA.mono ?_
    rintro e w1 ⟨rfl, hg⟩
    have HG := Lib.hid hg
    clear hg cA
    have HH1 := Lib.hid (HH.out.grown HG.out)
    have more : ∀ c', c' ≤ 300000 → p < c' → Pick bt A1 p c' → (Calls Tryz.prog 114 #[.pointer (some ⟨K, 0, none⟩), .int .i64 (c' : Int), .int .i64 (p : Int)] w1 fun e w' => e = .returned (.bool (aheadB bt A1 c' p)) ∧ Grown w1 w') := fun c' h1 h2 _ => ahead_any HB.out c' p HH1.out (HB.out.grown (HB.out.kept HE.out HK.out HAP.out) HG.out) h2 (by omega)
    cases hz : aheadB bt A1 d c with
    | false =>
      have HPK : Hid (Pick bt A1 p c) := Lib.hid (.inr ⟨by rw [← hz, HD.out, HC.out], HC.out⟩)
      have cB := more c (by omega) (by have := HC.out; omega) HPK.out
      clear hz more
      go_wp2_with fail
      refine cB.mono ?_
      rintro e w2 ⟨rfl, hg⟩
      have HG2 := Lib.hid hg
      clear hg cB
      have HH2 := Lib.hid (HH1.out.grown HG2.out)
      cases hz : aheadB bt A1 c p with
      | false =>
        have HZ := Lib.hid hz
        clear hz
        go_wp2
        refine bodyPost_ret (results_none rfl _ _ _) rfl ?_
        exact ⟨rfl, A1, HP.out, sk_stop HS.out (pick_stop HB.out.ranks HPK.out HZ.out), HH2.out, (HK.out.grow HG.out).grow HG2.out⟩
      | true =>
        obtain ⟨hcl, hpl, hS2⟩ := pick_go HB.out.ranks HPK.out hz HS.out HKP.out
        have HS2 := Lib.hid hS2
        have cS := swap_any c p HH2.out hcl hpl (by have := HC.out; omega)
        have HL : Hid (c < A.length) := Lib.hid (by rw [← HP.out.length_eq]; exact hcl)
        have HCB : Hid (c ≤ 100000) := Lib.hid (by have := HF.out; have := HL.out; omega)
        clear hz hS2
        go_wp2_with fail
        refine cS.mono ?_
        rintro e w3 ⟨rfl, h2, hk2⟩
        have HH3 := Lib.hid h2; have HK3 := Lib.hid hk2
        clear h2 hk2 cS
        go_wp2
        go_roundw
        case rel => exact ⟨c, _, rfl, by have := HC.out; have := HKP.out; omega, HCB.out, (exch_perm _ _ _).trans HP.out, HS2.out, HH3.out, ((HK.out.grow HG.out).grow HG2.out).trans HK3.out fun _ _ h => h⟩
        case measure => have := HL.out; have := HC.out; simp [intOf]; omega
    | true =>
      have HPK : Hid (Pick bt A1 p d) := Lib.hid (.inl ⟨by rw [← hz, HD.out, HC.out], by rw [HD.out, HC.out]⟩)
      have cB := more d (by omega) (by have := HC.out; omega) HPK.out
      clear hz more
      go_wp2_with fail
      refine cB.mono ?_
      rintro e w2 ⟨rfl, hg⟩
      have HG2 := Lib.hid hg
      clear hg cB
      have HH2 := Lib.hid (HH1.out.grown HG2.out)
      cases hz : aheadB bt A1 d p with
      | false =>
        have HZ := Lib.hid hz
        clear hz
        go_wp2
        refine bodyPost_ret (results_none rfl _ _ _) rfl ?_
        exact ⟨rfl, A1, HP.out, sk_stop HS.out (pick_stop HB.out.ranks HPK.out HZ.out), HH2.out, (HK.out.grow HG.out).grow HG2.out⟩
      | true =>
        obtain ⟨hcl, hpl, hS2⟩ := pick_go HB.out.ranks HPK.out hz HS.out HKP.out
        have HS2 := Lib.hid hS2
        have cS := swap_any d p HH2.out hcl hpl (by have := HC.out; have := HD.out; omega)
        have HL : Hid (d < A.length) := Lib.hid (by rw [← HP.out.length_eq]; exact hcl)
        have HCB : Hid (d ≤ 100000) := Lib.hid (by have := HF.out; have := HL.out; omega)
        clear hz hS2
        go_wp2_with fail
        refine cS.mono ?_
        rintro e w3 ⟨rfl, h2, hk2⟩
        have HH3 := Lib.hid h2; have HK3 := Lib.hid hk2
        clear h2 hk2 cS
        go_wp2
        go_roundw
        case rel => exact ⟨d, _, rfl, by have := HC.out; have := HD.out; have := HKP.out; omega, HCB.out, (exch_perm _ _ _).trans HP.out, HS2.out, HH3.out, ((HK.out.grow HG.out).grow HG2.out).trans HK3.out fun _ _ h => h⟩
        case measure => have := HL.out; have := HC.out; have := HD.out; simp [intOf]; omega
end Go.Proofs.YtnmacalbbmeedaaGreat
/- The heap's calls: made, asked, pushed. -/
namespace Go.Proofs.YtnmacalbbmeedaaGreat
open Go.RowKit Go.Shelf
open Go.Sort (grow grow_empty grow_grow alloc_eq_grow heap_grow_old)
variable {w w' : World} {B K : Nat} {fv v : Value} {A : List Ent} {pu pk : Int} {bt : Ent → Ent → Bool} {E : World → Prop} {Bk : Nat → Prop}

/-- What is on top. -/
def topOf : List Ent → Ent × Bool
  | [] => ((0, 0, 0, 0, 0, 0), false)
  | a :: _ => (a, true)
def topV (x : Ent × Bool) : Value := .tuple #[entV x.1, .bool x.2]
set_option maxRecDepth 100000 in
theorem Tryz.isFn (g : Nat) (lb : Array Value) (w : World) : (binOp BinOp.eql 112 (Value.func (Fn.func g) #[] lb) Value.nilFunc).run Tryz.prog w = .ok (.bool false) w := by kernel_rfl
set_option maxRecDepth 100000 in
theorem hlen_any (h : Hp w B K fv v A pu pk) : Calls Tryz.prog 95 #[.pointer (some ⟨K, 0, none⟩)] w fun e w' => e = .returned (.int .i64 (A.length : Int)) ∧ w' = w := by
  obtain ⟨c0, c1, c2, c3⟩ := h.cells
  obtain ⟨a, cap, rfl, hc⟩ := h.row.form
  clear h
  go_enter Tryz.func95, Tryz.ntmps95
  go_wp2
  go_ret
  exact ⟨rfl, rfl⟩
set_option maxRecDepth 100000 in
theorem hnew_any (g : Nat) (lb : Array Value) (w : World) : Calls Tryz.prog 50 #[fnV g lb] w fun e w' => e = .returned (.pointer (some ⟨w.heap.size, 0, none⟩)) ∧ w' = w.alloc (.cells #[fnV g lb, .slice none 0 0, .int .i64 0, .int .i64 0] 142) := by
  go_enter Tryz.func50, Tryz.ntmps50
  go_wp2
  go_ret
  exact ⟨rfl, rfl⟩
set_option maxRecDepth 100000 in
theorem hp_new (fv : Value) (w : World) : Hp (w.alloc (.cells #[fv, .slice none 0 0, .int .i64 0, .int .i64 0] 142)) w.heap.size w.heap.size fv (.slice none 0 0) [] 0 0 :=
  ⟨heap_alloc_new w _, ownE.nil _ _, by simp, Nat.le_refl _, fun x hx => by simp at hx⟩
set_option maxRecDepth 100000 in
theorem alloc_grown (w : World) (o : Obj) : Grown w (w.alloc o) := (Grown.refl w).alloc o
set_option maxRecDepth 100000 in
set_option maxHeartbeats 1000000 in
theorem top_any (h : Hp w B K fv v A pu pk) : Calls Tryz.prog 119 #[.pointer (some ⟨K, 0, none⟩)] w fun e w' => e = .returned (topV (topOf A)) ∧ Grown w w' := by
  have HR := Lib.hid (Grown.refl w)
  have HA := Lib.hid (h.grown (HR.out.alloc (.cells #[.int .i64 0, .int .i64 0, .int .i64 0, .int .i64 0, .int .i64 0, .int .i64 0] 111)))
  cases A with
  | nil =>
    clear h
    go_enter Tryz.func119, Tryz.ntmps119
    go_wp2_with (go_at_call 95; refine (hlen_any HA.out).mono ?_; rintro e w1 ⟨rfl, rfl⟩)
    refine bodyPost_ret (v := topV (topOf [])) (by rw [results_cell_tmp rfl]; simp [go_sem, topV, topOf, entV]) rfl ?_
    exact ⟨rfl, (HR.out.alloc _).alloc _⟩
  | cons a t =>
    obtain ⟨g, cap, rfl, hc, hB, hgw, hgK⟩ := HA.out.place (by simp)
    obtain ⟨c0, c1, c2, c3⟩ := HA.out.cells
    obtain ⟨a0, a1, a2, a3, a4, a5, _, _, _, _, _, _⟩ := HA.out.at (j := 0) (by simp)
    rw [Nat.zero_mul] at a0 a1 a2 a3 a4 a5
    rw [Nat.zero_add] at a1 a2 a3 a4 a5
    have cL := hlen_any HA.out
    obtain ⟨n, hn⟩ : ∃ n, (a :: t).length = n := ⟨_, rfl⟩
    have hn0 : ((n : Int) == 0) = false := by simp at hn; simp; omega
    have hn1 : (0 : Int) < (n : Int) := by simp at hn; omega
    rw [hn] at c1 cL hc
    obtain ⟨⟨x0, x1, x2, x3, x4, x5⟩, hx⟩ : ∃ x, x = a := ⟨_, rfl⟩
    rw [List.getElem_cons_zero, ← hx] at a0 a1 a2 a3 a4 a5
    rw [← hx]
    clear h hn hx
    go_enter Tryz.func119, Tryz.ntmps119
    go_wp2_with (go_at_call 95; refine cL.mono ?_; rintro e w1 ⟨rfl, rfl⟩)
    refine bodyPost_ret (v := topV (topOf ((x0, x1, x2, x3, x4, x5) :: t))) (by rw [results_cell_tmp rfl]; simp [go_sem, topV, topOf, entV]) rfl ?_
    exact ⟨rfl, HR.out.alloc _⟩
end Go.Proofs.YtnmacalbbmeedaaGreat
