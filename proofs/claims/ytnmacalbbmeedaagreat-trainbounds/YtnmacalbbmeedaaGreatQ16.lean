/- Texts in one: IxNoteP, CmpP, SortP, SortQ, RisP. -/
import Derived.Test.YtnmacalbbmeedaaGreatQ15
import Derived.Test.YtnmacalbbmeedaaGreatQ11
import Derived.Test.YtnmacalbbmeedaaGreatQ13
import Derived.Shelf.SlSortCmp.NoneTotal
import Derived.Sort.OwnSorted
import Derived.Test.YtnmacalbbmeedaaGreatQ14
import Derived.Laws.IdiomRangeMap
/- The places of a word's changes kept, and its changes as they are in all: plain lists, and memory. -/
namespace Go.Proofs.YtnmacalbbmeedaaGreat
open Go.RowKit Go.Maps

/-- Behind the changes X of the word at place z: who has which places. -/
def noteF (z : Int) (f : Int × Int → List Int) (X : List Chg) : Int × Int → List Int := X.foldl (fun f x => if 0 < x.2 then upd f x.1 (f x.1 ++ [z]) else f) f
def scaleC (t : Int) (X : List Chg) : List Chg := X.map fun x => (x.1, x.2 * t)
set_option maxRecDepth 100000 in
theorem scale_len (t : Int) (X : List Chg) : (scaleC t X).length = X.length := by simp [scaleC]
set_option maxRecDepth 100000 in
theorem noteF_snoc (z : Int) (f : Int × Int → List Int) (X : List Chg) (x : Chg) : noteF z f (X ++ [x]) = if 0 < x.2 then upd (noteF z f X) x.1 (noteF z f X x.1 ++ [z]) else noteF z f X := by
  unfold noteF; rw [List.foldl_append]; rfl
set_option maxRecDepth 100000 in
theorem noteF_out (z : Int) {q : Int × Int} : ∀ (X : List Chg) (f : Int × Int → List Int), (∀ x ∈ X, x.1 ≠ q) → noteF z f X q = f q
  | [], _, _ => rfl
  | x :: r, f, h => by
    have ih := noteF_out z r (if 0 < x.2 then upd f x.1 (f x.1 ++ [z]) else f) (fun y hy => h y (List.mem_cons_of_mem _ hy))
    have e : noteF z f (x :: r) = noteF z (if 0 < x.2 then upd f x.1 (f x.1 ++ [z]) else f) r := rfl
    rw [e, ih]
    split
    · exact upd_other _ _ _ fun k => h x (List.mem_cons_self ..) k.symm
    · rfl
set_option maxRecDepth 100000 in
theorem noteF_take {z : Int} {X : List Chg} {k : Nat} (hk : k < X.length) (f : Int × Int → List Int) : noteF z f (X.take (k + 1)) = if 0 < X[k].2 then upd (noteF z f (X.take k)) X[k].1 (noteF z f (X.take k) X[k].1 ++ [z]) else noteF z f (X.take k) := by
  rw [List.take_succ_eq_append_getElem hk, noteF_snoc]
set_option maxRecDepth 100000 in
theorem noteF_fresh {z : Int} {X : List Chg} (hd : X.Pairwise fun x y => x.1 ≠ y.1) {k : Nat} (hk : k < X.length) (f : Int × Int → List Int) : noteF z f (X.take k) X[k].1 = f X[k].1 := by
  refine noteF_out z _ _ fun x hx e => ?_
  obtain ⟨i, hi, rfl⟩ := List.mem_iff_getElem.1 hx
  rw [List.length_take] at hi
  rw [List.getElem_take] at e
  exact List.pairwise_iff_getElem.1 hd i k (by omega) hk (by omega) e
def fillC (Z : List Chg) (k : Nat) : List Chg := Z.take k ++ List.replicate (Z.length - k) ((0, 0), 0)
set_option maxRecDepth 100000 in
theorem fillC_len {Z : List Chg} {k : Nat} (hk : k ≤ Z.length) : (fillC Z k).length = Z.length := by
  unfold fillC; rw [List.length_append, List.length_take, List.length_replicate]; omega
set_option maxRecDepth 100000 in
theorem fillC_all (Z : List Chg) : fillC Z Z.length = Z := by simp [fillC]
set_option maxRecDepth 100000 in
theorem fillC_at {Z : List Chg} {k : Nat} (hk : k < Z.length) (h : k < (fillC Z k).length) : (fillC Z k)[k] = ((0, 0), 0) := by
  have e : (fillC Z k)[k]? = some ((0, 0), 0) := by
    unfold fillC
    rw [List.getElem?_append_right (by rw [List.length_take]; omega), List.length_take, Nat.min_eq_left (by omega), Nat.sub_self, List.getElem?_replicate, if_pos (by omega)]
  exact (List.getElem?_eq_some_iff.1 e).2
set_option maxRecDepth 100000 in
theorem fillC_step {Z : List Chg} {k : Nat} (hk : k < Z.length) : (fillC Z k).set k Z[k] = fillC Z (k + 1) := by
  unfold fillC
  have hl : (Z.take k).length = k := by rw [List.length_take]; omega
  rw [List.set_append_right _ _ (by omega), hl, Nat.sub_self, List.take_succ_eq_append_getElem hk, show Z.length - k = Z.length - (k + 1) + 1 by omega, List.replicate_succ, List.set_cons_zero, List.append_assoc]
  rfl
set_option maxRecDepth 100000 in
theorem crow_store {w : World} {g k : Nat} {Z : List Chg} (h : rowE chgE w g (fillC Z k)) (hk : k < Z.length) (a b c : Int) (hz : Z[k] = ((a, b), c)) :
    rowE chgE (((w.setCell ⟨g, k * 3, none⟩ (.int .i64 a)).setCell ⟨g, k * 3 + 1, none⟩ (.int .i64 b)).setCell ⟨g, k * 3 + 2, none⟩ (.int .i64 c)) g (fillC Z (k + 1)) := by
  have hl : k < (fillC Z k).length := by rw [fillC_len (by omega)]; exact hk
  have h0 := h.store (i := 0) (u := .int .i64 a) ((a, 0), 0) hl (by decide) (by rw [fillC_at hk hl]; rfl)
  have h1 := h0.store (i := 1) (u := .int .i64 b) ((a, b), 0) (by rw [List.length_set]; exact hl) (by decide) (by rw [List.getElem_set_self]; rfl)
  have h2 := h1.store (i := 2) (u := .int .i64 c) ((a, b), c) (by rw [List.length_set, List.length_set]; exact hl) (by decide) (by rw [List.getElem_set_self]; rfl)
  rw [List.set_set, List.set_set, ← hz, fillC_step hk] at h2
  exact h2
set_option maxRecDepth 100000 in
theorem crow_cell {w : World} {g k : Nat} {L : List Chg} (h : rowE chgE w g L) (hk : k < L.length) : (∃ u, w.cell? ⟨g, k * 3, none⟩ = some u) ∧ (∃ u, w.cell? ⟨g, k * 3 + 1, none⟩ = some u) ∧ (∃ u, w.cell? ⟨g, k * 3 + 2, none⟩ = some u) ∧ ∀ j, w.frozen? ⟨g, j, none⟩ = false := by
  have h0 := h.cells (i := 0) hk (by decide)
  have h1 := h.cells (i := 1) hk (by decide)
  have h2 := h.cells (i := 2) hk (by decide)
  obtain ⟨cs, hg, _⟩ := h
  exact ⟨⟨_, h0.1⟩, ⟨_, h1.1⟩, ⟨_, h2.1⟩, fun j => Lib.frozen_of_heap hg j⟩
set_option maxRecDepth 100000 in
/-- A word of the index, in memory. -/
theorem IxM.word {w : World} {lab : Nat → Lab} {K N : Nat} {V : Int × Int → Value} {M : Mdl} (h : IxM w lab K N V M) {j : Nat} {X : List Int} {t : Int} (hj : M.ws[j]? = some (X, t)) :
    ∃ gw c k g Y, w.cell? ⟨K, 0, none⟩ = some (.slice (some ⟨gw, 0, none⟩) M.ws.length c) ∧ j < M.ws.length ∧ w.cell? ⟨gw, j * 2, none⟩ = some (.pointer (some ⟨k, 0, none⟩)) ∧ w.cell? ⟨gw, j * 2 + 1, none⟩ = some (.int .i64 t) ∧ SeqO w k g X Y ∧ lab k = .box j ∧ lab g = .row j ∧ gw < w.heap.size ∧ lab gw = .words := by
  obtain ⟨wv, Kc, mc, b, E, h⟩ := h
  obtain ⟨k, g, Y, he, hs, l1, l2⟩ := h.seqs j X t hj
  have hlt := (List.getElem?_eq_some_iff.1 hj).1
  obtain ⟨hjE, he2⟩ := List.getElem?_eq_some_iff.1 he
  obtain ⟨a, c, rfl, _⟩ := h.row.form
  obtain ⟨gw, rfl, _⟩ := ownE_some h.row (by rw [h.len]; omega)
  have hc := elts_at h.row.reads (Below.refl _ _) hjE
  rw [he2] at hc
  have h0 := hc 0 _ rfl
  have h1 := hc 1 _ rfl
  rw [add_zero_off] at h0 h1
  have := (h.row.lt gw rfl).2
  refine ⟨gw, c, k, g, Y, ?_, hlt, h0, h1, hs, l1, l2, this, h.lw gw rfl⟩
  rw [h.cells.1, h.len]
/-- The slices of pairs that X doesn't name more often are as they were. -/
def SameV (X : List Chg) (V V' : Int × Int → Value) : Prop := ∀ q, (∀ x ∈ X, 0 < x.2 → x.1 ≠ q) → V' q = V q
def NoteRel (w : World) (lab : Nat → Lab) (K N : Nat) (V : Int × Int → Value) (M : Mdl) (z t : Int) (X : List Chg) (g : Nat) (i : Value) (wr : World) : Prop :=
  ∃ (k : Nat) (lab' : Nat → Lab) (V' : Int × Int → Value), i = .int .i64 (k : Int) ∧ k ≤ X.length ∧ SameV X V V' ∧ IxM wr lab' K (N + k) V' { M with pl := noteF z M.pl (X.take k) } ∧ XRet lab w lab' wr ∧ rowE chgE wr g (fillC (scaleC t X) k) ∧ lab' g = .no ∧ w.heap.size ≤ g ∧ K < w.heap.size ∧ wr.heap[K]? = w.heap[K]?
set_option maxRecDepth 100000 in
/-- The round's end, from whatever world the row lies in. -/
theorem note_step {w W : World} {lab lab2 : Nat → Lab} {K N : Nat} {V V' : Int × Int → Value} {M : Mdl} {z t : Int} {X : List Chg} {g k : Nat} {f : Int × Int → List Int} {z0 z1 zy : Int} (hk : k < X.length) (hx : X[k] = ((z0, z1), zy)) (hV : SameV X V V') (h1 : IxM W lab2 K (N + (k + 1)) V' { M with pl := f }) (h2 : XRet lab w lab2 W) (h3 : rowE chgE W g (fillC (scaleC t X) k))
    (h4 : lab2 g = .no) (h5 : f = noteF z M.pl (X.take (k + 1))) (hg : w.heap.size ≤ g) (hK : K < w.heap.size) (hKb : W.heap[K]? = w.heap[K]?) :
    NoteRel w lab K N V M z t X g (.int .i64 ((k : Int) + 1)) (((W.setCell ⟨g, k * 3, none⟩ (.int .i64 z0)).setCell ⟨g, k * 3 + 1, none⟩ (.int .i64 z1)).setCell ⟨g, k * 3 + 2, none⟩ (.int .i64 (zy * t))) := by
  subst h5
  have k1 : Kept (fun i => i = g) W (W.setCell ⟨g, k * 3, none⟩ (.int .i64 z0)) := (Kept.refl _ W).setCell _ _ fun _ => rfl
  have k2 : Kept (fun i => i = g) W ((W.setCell ⟨g, k * 3, none⟩ (.int .i64 z0)).setCell ⟨g, k * 3 + 1, none⟩ (.int .i64 z1)) := k1.setCell _ _ fun _ => rfl
  have k3 : Kept (fun i => i = g) W (((W.setCell ⟨g, k * 3, none⟩ (.int .i64 z0)).setCell ⟨g, k * 3 + 1, none⟩ (.int .i64 z1)).setCell ⟨g, k * 3 + 2, none⟩ (.int .i64 (zy * t))) := k2.setCell _ _ fun _ => rfl
  have e : (scaleC t X)[k]'(by rw [scale_len]; exact hk) = ((z0, z1), zy * t) := by simp [scaleC, hx]
  exact ⟨k + 1, lab2, V', by simp, hk, hV, h1.other k3 (fun i _ e => by subst e; exact h4), ⟨h2.kept.trans k3 (fun i hi e => by subst e; omega), h2.sub⟩, crow_store h3 (by rw [scale_len]; exact hk) z0 z1 (zy * t) e, h4, hg, hK, (k3.block K (Nat.lt_of_lt_of_le hK h2.size) (by omega)).trans hKb⟩
set_option maxRecDepth 100000 in
theorem SameV.put {X : List Chg} {V V' : Int × Int → Value} (h : SameV X V V') {k : Nat} (hk : k < X.length) {p : Int × Int} {y : Int} (hx : X[k] = (p, y)) (hy : 0 < y) (r : Value) : SameV X V (upd V' p r) := fun q hq => by
  rw [upd_other]
  · exact h q hq
  · have := hq X[k] (List.getElem_mem hk) (by rw [hx]; exact hy)
    rw [hx] at this
    exact fun e => this e.symm
/-- What note tells, and leaves. -/
def NoteRet (lab : Nat → Lab) (K N : Nat) (V : Int × Int → Value) (M : Mdl) (z t : Int) (X : List Chg) (w : World) (e : Ending) (w' : World) : Prop :=
  ∃ r lab' V', e = .returned r ∧ ownE chgE w' w.heap.size r (scaleC t X) ∧ (∀ g, r.ownBlock = some g → lab' g = .no) ∧ SameV X V V' ∧ IxM w' lab' K (N + X.length) V' { M with pl := noteF z M.pl X } ∧ XRet lab w lab' w' ∧ w'.heap[K]? = w.heap[K]?
set_option maxRecDepth 100000 in
theorem box3_cells {w : World} {b : Nat} {x y z : Int} (h : w.heap[b]? = some (.cells #[.int .i64 x, .int .i64 y, .int .i64 z] 167 (0, 0))) : w.cell? ⟨b, 0, none⟩ = some (.int .i64 x) ∧ w.cell? ⟨b, 1, none⟩ = some (.int .i64 y) ∧ w.cell? ⟨b, 2, none⟩ = some (.int .i64 z) := by
  refine ⟨?_, ?_, ?_⟩ <;> (rw [cell_of_row w b _ _ 167 (0, 0) h]; rfl)
end Go.Proofs.YtnmacalbbmeedaaGreat
/- How two pairs compare. -/
namespace Go.Proofs.YtnmacalbbmeedaaGreat
open Go.RowKit Go.Maps

/-- Below 0: x is ahead of y. -/
def cfP (x y : Int × Int) : Int := orI (ccmpI x.1 y.1) (ccmpI x.2 y.2)
set_option maxRecDepth 100000 in
set_option maxHeartbeats 2000000 in
theorem prclosure_any (x y : Int × Int) (W : World) : Calls Tryz.prog 98 #[.agg #[.int .i64 x.1, .int .i64 x.2], .agg #[.int .i64 y.1, .int .i64 y.2]] W fun e w' => e = .returned (.int .i64 (cfP x y)) ∧ ∃ q os', w' = Sort.grow (W.drewN q) os' := by
  obtain ⟨a, b⟩ := x
  obtain ⟨p, q⟩ := y
  unfold cfP
  simp only
  obtain ⟨w1, hw1⟩ : ∃ w1, w1 = (W.alloc (.cells #[.int .i64 a, .int .i64 b] 77)).alloc (.cells #[.int .i64 p, .int .i64 q] 77) := ⟨_, rfl⟩
  obtain ⟨o, ho⟩ : ∃ o, o = Obj.cells #[.int .i64 (ccmpI a p), .int .i64 (ccmpI b q)] 3 (0, 0) := ⟨_, rfl⟩
  have HG : Hid (∃ q os', (w1.alloc o).drew = Sort.grow (W.drewN q) os') := Lib.hid ⟨1, _, by rw [hw1, Sort.alloc_eq_grow, Sort.alloc_eq_grow, Sort.alloc_eq_grow, Sort.grow_grow, Sort.grow_grow]; rfl⟩
  have u0 : w1.cell? ⟨W.heap.size, 0, none⟩ = some (.int .i64 a) := by rw [hw1]; simp
  have u1 : w1.cell? ⟨W.heap.size, 1, none⟩ = some (.int .i64 b) := by rw [hw1]; simp
  have v0 : w1.cell? ⟨W.heap.size + 1, 0, none⟩ = some (.int .i64 p) := by rw [hw1]; simp
  have v1 : w1.cell? ⟨W.heap.size + 1, 1, none⟩ = some (.int .i64 q) := by rw [hw1]; simp
  have cI := fun x y => ccmpI_any x y w1.drew
  have hs1 : w1.heap.size = W.heap.size + 1 + 1 := by rw [hw1]; simp
  have bb := (Below.refl w1.heap.size w1).alloc (Nat.le_refl _) o
  have x0 : (w1.alloc o).drew.cell? ⟨W.heap.size, 0, none⟩ = some (.int .i64 a) := (bb.cell (by simp; omega)).trans u0
  have x1 : (w1.alloc o).drew.cell? ⟨W.heap.size, 1, none⟩ = some (.int .i64 b) := (bb.cell (by simp; omega)).trans u1
  have y0 : (w1.alloc o).drew.cell? ⟨W.heap.size + 1, 0, none⟩ = some (.int .i64 p) := (bb.cell (by simp; omega)).trans v0
  have y1 : (w1.alloc o).drew.cell? ⟨W.heap.size + 1, 1, none⟩ = some (.int .i64 q) := (bb.cell (by simp; omega)).trans v1
  have cO := or_any (ccmpI a p) (ccmpI b q) w1.heap.size (w1.alloc o).drew (by rw [ho]; show (w1.alloc _).cell? _ = _; simp) (by rw [ho]; show (w1.alloc _).cell? _ = _; simp)
  rw [ho] at cO HG x0 x1 y0 y1
  have hw' := hw1.symm
  clear hw1 bb ho hs1
  go_enter Tryz.func98, Tryz.ntmps98
  go_wp2_with fail
  go_region_held3 (fun w' => w'.cell? ⟨W.heap.size, 0, none⟩ = some (.int .i64 a) ∧ w'.cell? ⟨W.heap.size, 1, none⟩ = some (.int .i64 b) ∧ w'.cell? ⟨W.heap.size + 1, 0, none⟩ = some (.int .i64 p) ∧ w'.cell? ⟨W.heap.size + 1, 1, none⟩ = some (.int .i64 q)) (first | exact ⟨u0, u1, v0, v1⟩ | exact ⟨x0, x1, y0, y1⟩) (first | (go_at_call 72; refine (cI _ _).mono ?_; rintro e w2 ⟨rfl, rfl⟩) | (go_at_call 71; refine cO.mono ?_; rintro e w2 ⟨rfl, rfl⟩))
  all_goals go_wp2
  all_goals go_ret
  all_goals exact ⟨rfl, HG.out⟩
end Go.Proofs.YtnmacalbbmeedaaGreat
/- The sort of pairs: the library's contract, laid at this program. -/
namespace Go.Proofs.YtnmacalbbmeedaaGreat
open Go.RowKit Go.Shelf Go.Lib Go.Sort

def sortRenP : Ren where
  f := fun x => match x with
    | 6 => 97
    | 15 => 118
    | 14 => 117
    | 28 => 139
    | 29 => 140
    | 20 => 131
    | 21 => 132
    | 22 => 133
    | 23 => 134
    | 24 => 135
    | 25 => 136
    | 26 => 137
    | 27 => 138
    | 46 => 151
    | 47 => 152
    | 48 => 153
    | 49 => 154
    | 50 => 155
    | 57 => 161
    | n => n
  t := fun x => match x with
    | 22 => 74
    | 24 => 77
    | 25 => 177
    | 3 => 3
    | 39 => 194
    | 0 => 0
    | 53 => 212
    | 55 => 195
    | 4 => 4
    | 46 => 206
    | 45 => 205
    | 50 => 91
    | 5 => 5
    | 9 => 9
    | 66 => 219
    | 70 => 223
    | 76 => 228
    | 77 => 59
    | n => n
  g := fun x => x
set_option maxRecDepth 100000 in
theorem sortLaysP : SlLaysF0.n6 Tryz.prog sortRenP where
  mixed := by kernel_rfl
  f6 := ⟨Tryz.f97.name, by kernel_rfl, Tryz.func97⟩
  f15 := Tryz.func118
  f14 := ⟨Tryz.f117.name, by kernel_rfl, Tryz.func117⟩
  f28 := Tryz.func139
  f29 := Tryz.func140
  f20 := ⟨Tryz.f131.name, by kernel_rfl, Tryz.func131⟩
  f21 := ⟨Tryz.f132.name, by kernel_rfl, Tryz.func132⟩
  f22 := ⟨Tryz.f133.name, by kernel_rfl, Tryz.func133⟩
  f23 := ⟨Tryz.f134.name, by kernel_rfl, Tryz.func134⟩
  f24 := ⟨Tryz.f135.name, by kernel_rfl, Tryz.func135⟩
  f25 := ⟨Tryz.f136.name, by kernel_rfl, Tryz.func136⟩
  f26 := ⟨Tryz.f137.name, by kernel_rfl, Tryz.func137⟩
  f27 := ⟨Tryz.f138.name, by kernel_rfl, Tryz.func138⟩
  f46 := ⟨Tryz.f151.name, by kernel_rfl, Tryz.func151⟩
  f47 := Tryz.func152
  f48 := Tryz.func153
  f49 := ⟨Tryz.f154.name, by kernel_rfl, Tryz.func154⟩
  f50 := ⟨Tryz.f155.name, by kernel_rfl, Tryz.func155⟩
  f57 := ⟨Tryz.f161.name, by kernel_rfl, Tryz.func161⟩
  t22 := by kernel_rfl
  a22 := fun w => by kernel_rfl
  z22 := fun w => by kernel_rfl
  v22 := fun w => by kernel_rfl
  t25 := by kernel_rfl
  a25 := fun w => by kernel_rfl
  z25 := fun w => by kernel_rfl
  v25 := fun w => by kernel_rfl
  t3 := by kernel_rfl
  a3 := fun w => by kernel_rfl
  z3 := fun w => by kernel_rfl
  v3 := fun w => by kernel_rfl
  t39 := by kernel_rfl
  a39 := fun w => by kernel_rfl
  z39 := fun w => by kernel_rfl
  v39 := fun w => by kernel_rfl
  t0 := by kernel_rfl
  a0 := fun w => by kernel_rfl
  z0 := fun w => by kernel_rfl
  v0 := fun w => by kernel_rfl
  t53 := by kernel_rfl
  a53 := fun w => by kernel_rfl
  z53 := fun w => by kernel_rfl
  v53 := fun w => by kernel_rfl
  t55 := by kernel_rfl
  a55 := fun w => by kernel_rfl
  z55 := fun w => by kernel_rfl
  v55 := fun w => by kernel_rfl
  t4 := by kernel_rfl
  a4 := fun w => by kernel_rfl
  z4 := fun w => by kernel_rfl
  v4 := fun w => by kernel_rfl
  t46 := by kernel_rfl
  a46 := fun w => by kernel_rfl
  z46 := fun w => by kernel_rfl
  v46 := fun w => by kernel_rfl
  t45 := by kernel_rfl
  a45 := fun w => by kernel_rfl
  z45 := fun w => by kernel_rfl
  v45 := fun w => by kernel_rfl
  t50 := by kernel_rfl
  a50 := fun w => by kernel_rfl
  z50 := fun w => by kernel_rfl
  v50 := fun w => by kernel_rfl
  t5 := by kernel_rfl
  a5 := fun w => by kernel_rfl
  z5 := fun w => by kernel_rfl
  v5 := fun w => by kernel_rfl
  t9 := by kernel_rfl
  a9 := fun w => by kernel_rfl
  z9 := fun w => by kernel_rfl
  v9 := fun w => by kernel_rfl
  t66 := by kernel_rfl
  a66 := fun w => by kernel_rfl
  z66 := fun w => by kernel_rfl
  v66 := fun w => by kernel_rfl
  t70 := by kernel_rfl
  a70 := fun w => by kernel_rfl
  z70 := fun w => by kernel_rfl
  v70 := fun w => by kernel_rfl
  t76 := by kernel_rfl
  a76 := fun w => by kernel_rfl
  z76 := fun w => by kernel_rfl
  v76 := fun w => by kernel_rfl
  t77 := by kernel_rfl
  a77 := fun w => by kernel_rfl
  z77 := fun w => by kernel_rfl
  v77 := fun w => by kernel_rfl
end Go.Proofs.YtnmacalbbmeedaaGreat
/- Pairs sorted. -/
namespace Go.Proofs.YtnmacalbbmeedaaGreat
open Go.RowKit Go.Shelf Go.Lib

set_option maxRecDepth 100000 in
theorem cfP_neg (x y : (Int × Int)) : cfP x y < 0 ↔ pb x y := by
  unfold cfP orI ccmpI pb
  repeat' split
  all_goals omega
set_option maxRecDepth 100000 in
theorem ltP (x y : (Int × Int)) : ltOf cfP x y = decide (pb x y) := by
  unfold ltOf
  exact decide_eq_decide.2 (cfP_neg x y)
set_option maxRecDepth 100000 in
theorem swoP : Sort.SWO (ltOf cfP) where
  irrefl x := by rw [ltP]; exact decide_eq_false (pb_irrefl _)
  trans x y z h k := by
    rw [ltP] at *
    exact decide_eq_true (pb_trans (of_decide_eq_true h) (of_decide_eq_true k))
  ntrans x y z h k := by
    rw [ltP] at *
    have h1 := of_decide_eq_false h
    have h2 := of_decide_eq_false k
    refine decide_eq_false fun h3 => ?_
    by_cases e : x = y
    · rw [← e] at h2; exact h2 h3
    · rcases pb_total e with h4 | h4
      · exact h1 h4
      · exact h2 (pb_trans h4 h3)
set_option maxRecDepth 100000 in
theorem cmpLaysP (blk off size : Nat) (w : World) : CmpLays Tryz.prog 98 #[] pairE.enc 2 cfP blk off size w := fun _ _ _ _ x y => prclosure_any x y _
set_option maxRecDepth 100000 in
theorem flat_pcells (L : List (Int × Int)) : Sort.flatK pairE.enc 2 L.toArray = (ecells pairE L).toArray := by
  have hel := ecells_len (R := pairE) L
  change (ecells pairE L).length = L.length * 2 at hel
  refine Array.ext (by simp [hel]) fun t h1 h2 => ?_
  have ht : t < L.length * 2 := by simpa using h1
  have h3 := Sort.get_flatK pairE.enc 2 L.toArray t (by simpa using ht)
  rw [getElem!_pos _ t h1] at h3
  rw [h3]
  have hq : t / 2 < L.length := by omega
  have k1 := ecells_at (R := pairE) L (j := t / 2) hq (i := t % 2) (Nat.mod_lt _ (by decide))
  change (ecells pairE L)[t / 2 * 2 + t % 2]? = _ at k1
  rw [show t / 2 * 2 + t % 2 = t by omega] at k1
  have e0 : L.toArray[t / 2]! = L[t / 2] := by rw [getElem!_pos _ _ (by simp; omega)]; simp
  rw [e0]
  have h2' : t < (ecells pairE L).length := by simpa using h2
  have e1 : (ecells pairE L).toArray[t] = (ecells pairE L)[t] := by simp
  rw [e1]
  rw [List.getElem?_eq_getElem h2'] at k1
  have hm : t % 2 < (pairE.enc L[t / 2]).length := by rw [pairE.len]; exact Nat.mod_lt _ (by decide)
  rw [List.getElem?_eq_getElem hm] at k1
  rw [Option.some.inj k1]
  first | rw [getElem!_pos _ _ hm] | simp [hm]
set_option maxRecDepth 100000 in
theorem holdsP {w : World} {g : Nat} {cur : Array Value} {M : List (Int × Int)} (hb : w.heap[g]? = some (.cells cur 77 (0, 0))) (ht : cur.toList.take (M.length * 2) = ecells pairE M) : Sort.HoldsK pairE.enc 2 w g 0 M.toArray := by
  have hel := ecells_len (R := pairE) M
  change (ecells pairE M).length = M.length * 2 at hel
  unfold Sort.HoldsK
  rw [flat_pcells]
  intro j hj
  have hj' : j < M.length * 2 := by rw [← hel]; simpa using hj
  have hj2 : j < (ecells pairE M).length := by simpa using hj
  refine ⟨?_, Lib.frozen_of_heap hb _⟩
  rw [Nat.zero_add, cell_of_row w g j cur 77 (0, 0) hb]
  have h1 : (cur.toList.take (M.length * 2))[j]? = (ecells pairE M)[j]? := by rw [ht]
  rw [List.getElem?_take_of_lt hj'] at h1
  rw [← Array.getElem?_toList, h1, getElem!_pos _ j hj, List.getElem?_eq_getElem hj2]
  simp
set_option maxRecDepth 100000 in
theorem take_putP {cur : Array Value} {L : List (Int × Int)} (h : L.length * 2 ≤ cur.size) : (Sort.putCells id 0 (ecells pairE L).toArray cur).toList.take (L.length * 2) = ecells pairE L := by
  have hwl := ecells_len (R := pairE) L
  change (ecells pairE L).length = L.length * 2 at hwl
  apply List.ext_getElem?
  intro j
  by_cases hj : j < L.length * 2
  · rw [List.getElem?_take_of_lt hj, Array.getElem?_toList]
    have hj2 : j < (ecells pairE L).length := by omega
    simp [Sort.putCells, hj2, show j < cur.size by omega]
  · rw [List.getElem?_take_eq_none (by omega), List.getElem?_eq_none (by omega)]
set_option maxRecDepth 100000 in
theorem heap_sortedP {w : World} {g n : Nat} {os : Array Obj} {cur : Array Value} {e : TypeId} {fr : Nat × Nat} (d : Array Value) (hb : w.heap[g]? = some (.cells cur e fr)) :
    (Sort.grow (Sort.putRow id (Sort.ahead w n) g 0 d) os).heap[g]? = some (.cells (Sort.putCells id 0 d cur) e fr) := by
  have hg : g < w.heap.size := (Array.getElem?_eq_some_iff.1 hb).1
  rw [Sort.heap_grow_old _ _ (by simpa using hg)]
  simp [Sort.putRow, Sort.mapBlock, Sort.ahead, Array.getElem?_modify, hb, Sort.onCells]
set_option maxRecDepth 100000 in
theorem grown_sortedP {w : World} {g n : Nat} {os : Array Obj} (d : Array Value) : w.grownBy (Sort.grow (Sort.putRow id (Sort.ahead w n) g 0 d) os) (some g) := by
  refine ⟨rfl, rfl, rfl, by simp, fun k hk hne => ?_⟩
  rw [Sort.heap_grow_old _ _ (by simpa using hk)]
  have : g ≠ k := fun e => hne (by rw [e])
  simp [Sort.putRow, Sort.mapBlock, Sort.ahead, Array.getElem?_modify, this]
set_option maxRecDepth 100000 in
/-- Sorted, no pair twice: it rises. -/
theorem psorted_rises {M : List (Int × Int)} {d' : Array (Int × Int)} (hn : M.Pairwise fun x y => x ≠ y) (h1 : Sort.PermIn 0 M.toArray.size M.toArray d') (h2 : Sort.SortedIn (ltOf cfP) 0 M.toArray.size d') : d'.toList.Perm M ∧ d'.toList.Pairwise fun x y => pb x y := by
  obtain ⟨hs, _, hq⟩ := h1
  have e1 : d'.extract 0 M.toArray.size = d' := by rw [← hs]; simp
  have e2 : M.toArray.extract 0 M.toArray.size = M.toArray := by simp
  rw [e1, e2] at hq
  have hq' : d'.toList.Perm M := hq.trans (by simp)
  have hn' : d'.toList.Pairwise fun x y => x ≠ y := (hq'.pairwise_iff (fun {a b} h => fun e => h e.symm)).2 hn
  refine ⟨hq', List.pairwise_iff_getElem.2 fun i j hi hj hij => ?_⟩
  have hj' : j < d'.size := by simpa using hj
  have hi' : i < d'.size := by simpa using hi
  have h3 := h2 i j (by omega) hij (by omega)
  rw [ltP, getElem!_pos d' j hj', getElem!_pos d' i hi'] at h3
  have h4 := of_decide_eq_false h3
  have h5 := List.pairwise_iff_getElem.1 hn' i j hi hj hij
  simp only [Array.getElem_toList] at h5 ⊢
  exact (pb_total h5).resolve_right h4
set_option maxRecDepth 100000 in
/-- Sorted: the same row holds a list that rises. -/
theorem prsort_any (v : Value) (M : List (Int × Int)) (w : World) (base : Nat) (h : ownE pairE w base v M) (hn : M.Pairwise fun x y => x ≠ y) (hl : M.length ≤ 1048576) :
    Calls Tryz.prog 97 #[v, .func (.func 98) #[] #[]] w fun e w' => e = .returned (.tuple #[]) ∧ ∃ L, ownE pairE w' base v L ∧ L.Perm M ∧ (L.Pairwise fun x y => pb x y) ∧ w.grownBy w' v.ownBlock := by
  by_cases h0 : M.length = 0
  · obtain rfl : M = [] := List.eq_nil_of_length_eq_zero h0
    obtain ⟨a, cap, rfl, _⟩ := h.form
    refine (AnyF.slices_SortFunc_none sortLaysP a cap (.func (.func 98) #[] #[]) w).mono ?_
    rintro e w' ⟨rfl, rfl⟩
    exact ⟨rfl, [], h, List.Perm.refl _, List.Pairwise.nil, ⟨rfl, rfl, rfl, Nat.le_refl _, fun _ _ _ => rfl⟩⟩
  · rcases h.2 with ⟨_, h1⟩ | ⟨g, cap, cur, rfl, hbase, hb, h1, h2, h3, h4⟩
    · omega
    · have eg : ∀ args w, (callFunc 98 args).run Tryz.prog w = .ok (.enter 98 args) w := enters_of Tryz.func98 (by kernel_rfl) rfl
      have hcon := AnyQ.slices_SortFunc sortLaysP 2 (fun w => by kernel_rfl) (fun w => by kernel_rfl) pairE.enc (fun _ => rfl) (fun x v hv => pairE.one x v hv) cfP swoP 98 #[] g 0 cap M.toArray w eg (cmpLaysP g 0 M.toArray.size w) (holdsP hb h4) (Array.getElem?_eq_some_iff.1 hb).1 (by simp; omega)
      have es : M.toArray.size = M.length := by simp
      change Calls Tryz.prog 97 #[.slice (some ⟨g, 0, none⟩) M.toArray.size cap, _] _ _ at hcon
      refine (es ▸ hcon).mono ?_
      rintro e w' ⟨rfl, d', n, os, hperm, hsort, rfl⟩
      obtain ⟨hp, hr⟩ := psorted_rises hn (by rw [es]; exact hperm) (by rw [es]; exact hsort)
      have hlen := hp.length_eq
      obtain ⟨L, rfl⟩ : ∃ L : List (Int × Int), d' = L.toArray := ⟨d'.toList, by simp⟩
      simp only at hp hr hlen
      unfold sortWorldK Sort.putRowK
      rw [flat_pcells]
      change cur.size = cap * 2 at h3
      refine ⟨rfl, L, ⟨ecells_len L, .inr ⟨g, cap, _, by rw [hlen], hbase, heap_sortedP _ hb, by omega, h2, by show _ = cap * 2; simpa [Sort.putCells] using h3, take_putP (by omega)⟩⟩, hp, hr, grown_sortedP _⟩
end Go.Proofs.YtnmacalbbmeedaaGreat
/- What a map of pairs has, rising. -/
namespace Go.Proofs.YtnmacalbbmeedaaGreat
open Go.RowKit Go.Maps

set_option maxRecDepth 100000 in
/-- A range's step over a map of pairs. -/
theorem dwpList_next_pairs (w : World) {ops : Array Oper} {rest : List Oper} {o : Oper} {a : Act} {Q : Exit → Act → World → Prop} (hg : o.guard = none) (it : Operand) (hop : o.op = Op.next it false) (D : DataW Unit) (b r n : Nat) (left : Lit → Bool) (cnt : Nat)
    (hit : a.eval it = .pointer (some ⟨r, 0, none⟩)) (h : w.ranges Tryz.prog 77 (plainElem Tryz.prog 3) b r n D left cnt)
    (hDone : cnt = 0 → (∀ kl, left kl = false) → wpList Tryz.prog ops Q rest (a.put o.dst (.tuple #[.bool false])) w)
    (hMore : ∀ (p : Int × Int) (c : Int) (w' : World) (cnt' : Nat), FitsPr p → left (pk p) = true → (∀ zd, D.atKey (pk p) zd = .lit (.int .i64 c)) → w'.ranges Tryz.prog 77 (plainElem Tryz.prog 3) b r n D (fun z => left z && !z.sameKey (pk p)) cnt' → cnt' < cnt →
      w.grownBy w' (some r) → (Instr.entry (.pointer (some ⟨r, 0, none⟩))).run Tryz.prog w' = .ok (.tuple #[.agg #[.int .i64 p.1, .int .i64 p.2], .int .i64 c]) w' → wpList Tryz.prog ops Q rest (a.put o.dst (.tuple #[.bool true, .agg #[.int .i64 p.1, .int .i64 p.2], .int .i64 c])) w') :
    wpList Tryz.prog ops Q (o :: rest) a w :=
  wpList_next_ranges w hg it hop 77 lawP (plainElem Tryz.prog 3) pv (Value.int .i64) (fun key kl hkey => by obtain ⟨p, rfl, _⟩ := key_pair_inv hkey; exact ⟨p, rfl⟩) (fun v y hv => by obtain ⟨c, rfl, _⟩ := plainElem_int_inv Tryz.underlying3 hv; exact ⟨c, rfl⟩)
    b r n D left cnt hit h hDone (fun x c kl y w' cnt' hkey hlk hv hat hrg hlt hgr hsz hen => by
      obtain ⟨p, ex, rfl, hp⟩ := key_pair_inv hkey
      obtain ⟨c', ec, rfl, hwc⟩ := plainElem_int_inv Tryz.underlying3 hv
      cases ec
      have e : x = p := by
        unfold pv at ex
        simp only [Value.agg.injEq, Array.mk.injEq, List.cons.injEq, Value.int.injEq, true_and, and_true] at ex
        exact Prod.ext ex.1 ex.2
      subst e
      exact hMore x c w' cnt' hp hlk hat hrg hlt hgr hen)
def DRisRel (w : World) (b r : Nat) (D : DataW Unit) (L : Cn) (v : Value) (wr : World) : Prop :=
  ∃ (left : Lit → Bool) (cnt : Nat) (M : List (Int × Int)), wr.ranges Tryz.prog 77 (plainElem Tryz.prog 3) b r L.length D left cnt ∧ ownE pairE wr w.heap.size v M ∧ (∀ p, p ∈ M ↔ FitsPr p ∧ inC L p = true ∧ left (pk p) = false) ∧
    (M.Pairwise fun x y => x ≠ y) ∧ M.length + cnt ≤ L.length ∧ Below w.heap.size w wr
set_option maxRecDepth 100000 in
theorem own_ne_cmap {w : World} {b m : Nat} {v : Value} {M : List (Int × Int)} {n : Nat} {D : DataW Unit} (h : ownE pairE w b v M) (hm : w.ownsMap Tryz.prog 77 (plainElem (H := Unit) Tryz.prog 3) m n D) : some m ≠ v.ownBlock := by
  intro e
  obtain ⟨cs, hc⟩ := h.block m e.symm
  obtain ⟨es, clock, hb, _⟩ := hm
  rw [hc] at hb; cases hb
set_option maxRecDepth 100000 in
theorem dris_mem {M : List (Int × Int)} {D : DataW Unit} {L : Cn} {left : Lit → Bool} {p : Int × Int} {c : Int} (hM : ∀ p, p ∈ M ↔ FitsPr p ∧ inC L p = true ∧ left (pk p) = false) (hp : FitsPr p) (hl : left (pk p) = true)
    (hD : ReadsC D L) (hat : ∀ zd, D.atKey (pk p) zd = .lit (.int .i64 c)) :
    (∀ q, q ∈ M ++ [p] ↔ FitsPr q ∧ inC L q = true ∧ (left (pk q) && !(pk q).sameKey (pk p)) = false) ∧ (M.Pairwise (fun x y => x ≠ y) → (M ++ [p]).Pairwise fun x y => x ≠ y) := by
  have h2 := hD.has p hp
  rw [has_true_of_atKey hat] at h2
  constructor
  · intro q
    rw [List.mem_append, List.mem_singleton, hM]
    constructor
    · rintro (⟨a1, a2, a4⟩ | rfl)
      · exact ⟨a1, a2, by rw [a4]; rfl⟩
      · exact ⟨hp, h2.symm, by rw [WideAt.sameKey_self (pk_key _)]; simp⟩
    · rintro ⟨a1, a2, a4⟩
      by_cases e : q = p
      · exact .inr e
      · refine .inl ⟨a1, a2, ?_⟩
        rw [sameKey_ne fun k => e (pk_inj a1 hp k)] at a4
        simpa using a4
  · intro hn
    refine List.pairwise_append.2 ⟨hn, List.pairwise_singleton _ _, fun x hx y hy => ?_⟩
    rw [List.mem_singleton] at hy
    subst hy
    rintro rfl
    have := ((hM x).1 hx).2.2
    rw [hl] at this
    cases this
set_option maxRecDepth 100000 in
theorem dris_step {w wr w1 w2 : World} {b r cnt cnt' : Nat} {D : DataW Unit} {L : Cn} {M : List (Int × Int)} {v v' : Value} {left : Lit → Bool} {p : Int × Int} {c : Int} (o o2 : Obj) (hb : Below w.heap.size w wr) (hM : ∀ p, p ∈ M ↔ FitsPr p ∧ inC L p = true ∧ left (pk p) = false) (hn : M.Pairwise fun x y => x ≠ y) (hp : FitsPr p) (hl : left (pk p) = true)
    (hD : ReadsC D L) (hat : ∀ zd, D.atKey (pk p) zd = .lit (.int .i64 c))
    (hrr : w.heap.size ≤ r) (hg : wr.grownBy w1 (some r)) (h1 : w1.ranges Tryz.prog 77 (plainElem (H := Unit) Tryz.prog 3) b r L.length D (fun z => left z && !z.sameKey (pk p)) cnt') (hv : ownE pairE w1 w.heap.size v M) (hcnt : M.length + cnt ≤ L.length) (hlt : cnt' < cnt)
    (h2 : ownE pairE w2 w.heap.size v' (M ++ [p])) (hg2 : ((w1.alloc o).alloc o2).grownBy w2 v.ownBlock) :
    DRisRel w b r D L v' w2 ∧ w2.ranges Tryz.prog 77 (plainElem (H := Unit) Tryz.prog 3) b r L.length D (fun z => left z && !z.sameKey (pk p)) cnt' := by
  have hv' := (hv.alloc o).alloc o2
  have h0 := (h1.alloc o).alloc o2
  have h3 := h0.kept hg2 (own_ne_cmap hv' h0.owns) (row_ne_iter hv' h0)
  have hs := hb.size
  have hs1 := hg.size
  have hb1 : Below w.heap.size w w1 := hb.grown hg hs fun g e => by cases e; exact hrr
  obtain ⟨m1, m2⟩ := dris_mem hM hp hl hD hat
  exact ⟨⟨_, cnt', M ++ [p], h3, h2, m1, m2 hn, by simp; omega, ((hb1.alloc (by omega) o).alloc (by rw [World.size_alloc]; omega) _).grown hg2 (by rw [World.size_alloc, World.size_alloc]; omega) fun g e => (hv.lt g e).1⟩, h3⟩
set_option maxRecDepth 100000 in
theorem ris_keys {L : Cn} (h : RisC L) : (L.map (·.1)).Pairwise pb := List.pairwise_map.2 h
set_option maxRecDepth 100000 in
theorem keys_of {L : Cn} {M X : List (Int × Int)} (hL : RisC L) (hf : ∀ x ∈ L, FitsPr x.1) (hM : ∀ p, p ∈ M ↔ FitsPr p ∧ inC L p = true) (hp : X.Perm M) (hX : X.Pairwise pb) : X = L.map (·.1) := by
  refine rising_unique (fun _ _ h => pb_asymm h) (fun p => ?_) hX (ris_keys hL)
  rw [hp.mem_iff, hM, List.mem_map, inC_iff]
  constructor
  · rintro ⟨_, c, hc⟩; exact ⟨_, hc, rfl⟩
  · rintro ⟨x, hx, rfl⟩; exact ⟨hf x hx, x.2, hx⟩
end Go.Proofs.YtnmacalbbmeedaaGreat
