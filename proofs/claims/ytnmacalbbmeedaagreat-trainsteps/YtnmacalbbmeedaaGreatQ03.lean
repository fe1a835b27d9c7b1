/- Texts in one: Args, SRow, Elts, NvT. -/
import Derived.Test.YtnmacalbbmeedaaGreatQ01
import Derived.SliceStrings
import Derived.ChangeOld
import Derived.WideShapes
import Derived.Deep.SlicePairs
import Derived.Test.YtnmacalbbmeedaaGreatQ02
import Derived.BigQuiet
/- Arguments that are slices, opened. -/
namespace Go.Proofs.YtnmacalbbmeedaaGreat
open Go.ChangeShapes Go.WideShapes Go.RowKit

set_option maxRecDepth 100000 in
theorem Tryz.cells9 : Tryz.prog.cellsOf 9 = 1 := by kernel_rfl
set_option maxRecDepth 100000 in
theorem block_of_cell {w : World} {a : Addr} {j : Nat} {u : Value} (h : w.cell? (a.add j) = some u) : a.block < w.heap.size := by
  have hb : (a.add j).block = a.block := by unfold Addr.add; split <;> rfl
  have := World.block_lt_of_cell? w _ h
  rwa [hb] at this
set_option maxRecDepth 100000 in
theorem add_block (ad : Addr) (j : Nat) : (ad.add j).block = ad.block := by unfold Addr.add; split <;> rfl
/-- A nil row has no room. -/
def nilNone (v : Value) : Prop := ∀ n c, v = .slice none n c → c = 0
set_option maxRecDepth 100000 in
theorem Tryz.cells3 : Tryz.prog.cellsOf 3 = 1 := by kernel_rfl
set_option maxRecDepth 100000 in
theorem two_cell (ad : Addr) (n : Nat) : ad.add (n + 1) = ⟨(ad.add n).block, (ad.add n).off + 1, none⟩ := by
  unfold Addr.add
  by_cases h : n = 0
  · subst h; simp
  · simp [h, Nat.add_assoc]
set_option maxRecDepth 100000 in
theorem three_cell (ad : Addr) (n : Nat) : ad.add (n + 2) = ⟨(ad.add n).block, (ad.add n).off + 2, none⟩ := by
  unfold Addr.add
  by_cases h : n = 0
  · subst h; simp
  · simp [h, Nat.add_assoc]
end Go.Proofs.YtnmacalbbmeedaaGreat
/- Rows of structs, whatever they are: read, owned, made, written. -/
namespace Go.Proofs.YtnmacalbbmeedaaGreat
open Go.RowKit

/-- What a row's elements are: their type, the row's, how many cells and bytes each has, their zero, and each one's cells. -/
structure Elt (α : Type) where
  ty : TypeId
  sl : TypeId
  n : Nat
  bytes : Nat
  zero : Value
  enc : α → List Value
  under : Tryz.prog.underlying sl = some (.slice ty)
  info : (Tryz.prog.info? ty).map (fun i => (i.zero, i.size, i.bytes)) = some (some zero, n, bytes)
  pos : 0 < n
  small : bytes ≤ 100
  zlen : zero.cells.size = n
  len : ∀ x, (enc x).length = n
  one : ∀ x, ∀ u ∈ enc x, u.oneCell' = true
variable {α : Type} {R : Elt α}
def ecells (R : Elt α) (L : List α) : List Value := L.flatMap R.enc
set_option maxRecDepth 100000 in
theorem ecells_len (L : List α) : (ecells R L).length = L.length * R.n := by
  induction L with
  | nil => simp [ecells]
  | cons q r ih => unfold ecells at ih ⊢; rw [List.flatMap_cons, List.length_append, ih, R.len, List.length_cons, Nat.add_mul]; omega
set_option maxRecDepth 100000 in
theorem ecells_append (a b : List α) : ecells R (a ++ b) = ecells R a ++ ecells R b := by simp [ecells]
set_option maxRecDepth 100000 in
theorem ecells_one (L : List α) : ∀ u ∈ ecells R L, u.oneCell' = true := by
  intro u hu
  obtain ⟨p, _, hp⟩ := List.mem_flatMap.1 hu
  exact R.one p u hp
set_option maxRecDepth 100000 in
theorem ecells_at : ∀ (L : List α) {j : Nat} (hj : j < L.length) {i : Nat}, i < R.n → (ecells R L)[j * R.n + i]? = (R.enc L[j])[i]?
  | q :: r, 0, _, i, hi => by
    have e : ecells R (q :: r) = R.enc q ++ ecells R r := rfl
    rw [e, Nat.zero_mul, Nat.zero_add, List.getElem?_append_left (by rw [R.len]; exact hi)]
    rfl
  | q :: r, j + 1, hj, i, hi => by
    have ih := ecells_at r (j := j) (by simpa using hj) hi
    have e : ecells R (q :: r) = R.enc q ++ ecells R r := rfl
    rw [e, List.getElem?_append_right (by rw [R.len, Nat.add_mul]; omega), R.len]
    have e1 : (j + 1) * R.n + i - R.n = j * R.n + i := by rw [Nat.add_mul]; omega
    rw [e1, ih]
    rfl
/-- The slice value v reads as the elements L. -/
def eltsAt (R : Elt α) (w : World) (v : Value) (L : List α) : Prop :=
  ∃ a cap, v = .slice a L.length cap ∧ ∀ j (h : j < L.length), ∃ ad, a = some ad ∧ ad.block < w.heap.size ∧ ∀ i u, (R.enc L[j])[i]? = some u → w.cell? (ad.add (j * R.n + i)) = some u
set_option maxRecDepth 100000 in
theorem eltsAt.below {w w' : World} {v : Value} {L : List α} {B : Nat} (h : eltsAt R w v L) (hb : Below B w w') (hB : w.heap.size ≤ B) : eltsAt R w' v L := by
  obtain ⟨a, cap, rfl, hc⟩ := h
  refine ⟨a, cap, rfl, fun j hj => ?_⟩
  obtain ⟨ad, rfl, hlt, h1⟩ := hc j hj
  exact ⟨ad, rfl, Nat.lt_of_lt_of_le hlt hb.size, fun i u hu => (hb.cell (by rw [add_block]; omega)).trans (h1 i u hu)⟩
set_option maxRecDepth 100000 in
theorem eltsAt.kept {w w' : World} {v : Value} {L : List α} (h : eltsAt R w v L) (hs : w.heap.size ≤ w'.heap.size) (hk : ∀ a n c, v = .slice (some a) n c → w'.heap[a.block]? = w.heap[a.block]?) : eltsAt R w' v L := by
  obtain ⟨a, cap, rfl, hc⟩ := h
  refine ⟨a, cap, rfl, fun j hj => ?_⟩
  obtain ⟨ad, rfl, hlt, h1⟩ := hc j hj
  refine ⟨ad, rfl, Nat.lt_of_lt_of_le hlt hs, fun i u hu => ?_⟩
  rw [← h1 i u hu]
  exact World.cell?_of_block (by rw [add_block]; exact hk ad _ _ rfl)
set_option maxRecDepth 100000 in
theorem eltsAt.drew {w : World} {v : Value} {L : List α} (h : eltsAt R w v L) (n : Nat) : eltsAt R (w.drewN n) v L := h
set_option maxRecDepth 100000 in
theorem eltsAt.nil (w : World) : eltsAt R w (.slice none 0 0) [] := ⟨none, 0, rfl, fun j hj => by simp at hj⟩
set_option maxRecDepth 100000 in
/-- The cells of one element, in a later world. -/
theorem elts_at {w wr : World} {L : List α} {ad : Addr} {n cap : Nat} (h : eltsAt R w (.slice (some ad) n cap) L) (hb : Below w.heap.size w wr) {k : Nat} (hk : k < L.length) : ∀ i u, (R.enc L[k])[i]? = some u → wr.cell? (ad.add (k * R.n + i)) = some u := by
  obtain ⟨a, cap', e, hc⟩ := h.below hb (Nat.le_refl _)
  cases e
  obtain ⟨ad', e, _, h1⟩ := hc k hk
  cases e
  exact h1
/-- The slice value v owns the elements L. -/
def ownE (R : Elt α) (w : World) (base : Nat) (v : Value) (L : List α) : Prop := w.ownsRow base R.ty R.n v L.length (ecells R L)
set_option maxRecDepth 100000 in
theorem ownE.lt {w : World} {base : Nat} {v : Value} {L : List α} (h : ownE R w base v L) : ∀ k, v.ownBlock = some k → base ≤ k ∧ k < w.heap.size := World.ownsRow.lt h
set_option maxRecDepth 100000 in
theorem ownE.kept {w w' : World} {base : Nat} {v : Value} {L : List α} (h : ownE R w base v L) (hk : ∀ g, v.ownBlock = some g → w'.heap[g]? = w.heap[g]?) : ownE R w' base v L := by
  refine ⟨h.1, ?_⟩
  rcases h.2 with hn | ⟨g, cap, cur, rfl, hb, hgg, rest⟩
  · exact .inl hn
  · exact .inr ⟨g, cap, cur, rfl, hb, by rw [hk g rfl]; exact hgg, rest⟩
set_option maxRecDepth 100000 in
theorem ownE.below {w w' : World} {base : Nat} {v : Value} {L : List α} (h : ownE R w base v L) (hb : Below w.heap.size w w') : ownE R w' base v L := h.kept fun g hg => hb.block g (h.lt g hg).2
set_option maxRecDepth 100000 in
theorem ownE.block {w : World} {base : Nat} {v : Value} {L : List α} (h : ownE R w base v L) : ∀ g, v.ownBlock = some g → ∃ cs, w.heap[g]? = some (.cells cs R.ty (0, 0)) := by
  intro g hg
  rcases h.2 with ⟨rfl, _⟩ | ⟨g', cap, cur, rfl, _, hgg, _⟩
  · simp [Value.ownBlock] at hg
  · simp [Value.ownBlock] at hg; subst hg; exact ⟨cur, hgg⟩
set_option maxRecDepth 100000 in
theorem ownE.mono {w : World} {b b' : Nat} {v : Value} {L : List α} (h : ownE R w b v L) (hb : b' ≤ b) : ownE R w b' v L := by
  refine ⟨h.1, ?_⟩
  rcases h.2 with hn | ⟨g, cap, cur, rfl, hb2, rest⟩
  · exact .inl hn
  · exact .inr ⟨g, cap, cur, rfl, Nat.le_trans hb hb2, rest⟩
set_option maxRecDepth 100000 in
theorem ownE.nil (w : World) (b : Nat) : ownE R w b (.slice none 0 0) [] := ⟨by simp [ecells], .inl ⟨rfl, rfl⟩⟩
set_option maxRecDepth 100000 in
theorem ownE.reads {w : World} {base : Nat} {v : Value} {L : List α} (h : ownE R w base v L) : eltsAt R w v L := by
  rcases h.2 with ⟨rfl, h0⟩ | ⟨g, cap, cur, rfl, hb, hg, h1, h2, h3, h4⟩
  · refine ⟨none, 0, by rw [h0], fun j hj => by omega⟩
  · refine ⟨_, cap, rfl, fun j hj => ⟨_, rfl, (Array.getElem?_eq_some_iff.1 hg).1, fun i u hu => ?_⟩⟩
    have hi : i < R.n := by have := (List.getElem?_eq_some_iff.1 hu).1; rwa [R.len] at this
    rw [← ecells_at L hj hi] at hu
    have hi2 : j * R.n + i < L.length * R.n := by have := (List.getElem?_eq_some_iff.1 hu).1; rwa [ecells_len] at this
    rw [add_zero_off, cell_of_row w g _ cur R.ty (0, 0) hg, ← hu, ← h4, List.getElem?_take_of_lt hi2]
    simp
set_option maxRecDepth 100000 in
theorem ownE.form {w : World} {base : Nat} {v : Value} {L : List α} (h : ownE R w base v L) : ∃ a cap, v = .slice a L.length cap ∧ L.length ≤ cap := by
  rcases h.2 with ⟨rfl, h0⟩ | ⟨g, cap, cur, rfl, _, _, h1, _⟩
  · exact ⟨none, 0, by rw [h0], by omega⟩
  · exact ⟨_, cap, rfl, h1⟩
set_option maxRecDepth 100000 in
theorem ownE.nilNone {w : World} {base : Nat} {v : Value} {L : List α} (h : ownE R w base v L) : nilNone v := by
  rcases h.2 with ⟨rfl, h0⟩ | ⟨g, cap, cur, rfl, _⟩
  · intro n c e; cases e; rfl
  · intro n c e; cases e
set_option maxRecDepth 100000 in
theorem ownE.app {w2 : World} {b : Nat} {r : Value} {A B : List α} {n : Nat} (h : w2.ownsRow b R.ty R.n r (A.length + n) (ecells R A ++ ecells R B)) (hn : n = B.length) : ownE R w2 b r (A ++ B) := by
  unfold ownE; rw [List.length_append, ecells_append, ← hn]; exact h
set_option maxRecDepth 100000 in
theorem ownE.alloc {w : World} {b : Nat} {v : Value} {A : List α} (h : ownE R w b v A) (o : Obj) : ownE R (w.alloc o) b v A := h.kept fun g hg => Below.heap_alloc _ _ _ (h.lt g hg).2
set_option maxRecDepth 100000 in
theorem ownE.drewN {w : World} {b : Nat} {v : Value} {L : List α} (h : ownE R w b v L) (n : Nat) : ownE R (w.drewN n) b v L := h
set_option maxRecDepth 100000 in
theorem ownE.drew {w : World} {b : Nat} {v : Value} {L : List α} (h : ownE R w b v L) : ownE R w.drew b v L := h
set_option maxRecDepth 100000 in
theorem ownE_some {w : World} {b n cap : Nat} {a : Option Addr} {M : List α} (h : ownE R w b (.slice a n cap) M) (hM : 0 < M.length) : ∃ g, a = some ⟨g, 0, none⟩ ∧ b ≤ g := by
  rcases h.2 with ⟨_, h1⟩ | ⟨g', cap', cur, hv, hb, _⟩
  · omega
  · cases hv; exact ⟨g', rfl, hb⟩
set_option maxRecDepth 100000 in
/-- 'append(a, b...)': a is owned, b is read. -/
theorem run_append_elts (R : Elt α) {w : World} {base : Nat} {v x : Value} {A B : List α} (ty : TypeId) (hA : ownE R w base v A) (hB : eltsAt R w x B) (hnil : nilNone x) (hl : A.length + B.length ≤ 1048576) (hb : base ≤ w.heap.size) :
    ∃ r w', (Builtin.append_ #[R.sl, R.sl] ty #[v, x]).run Tryz.prog w = .ok r w' ∧ ownE R w' base r (A ++ B) ∧ w.grownBy w' v.ownBlock ∧ (r.ownBlock = v.ownBlock ∨ r.ownBlock = some w.heap.size) := by
  obtain ⟨j0, hj, hy0, hy1, hy2⟩ := info_parts R.info
  obtain ⟨a, c, rfl, hc⟩ := hB
  cases a with
  | none =>
    obtain rfl := hnil _ _ rfl
    have hB0 : B = [] := by
      cases B with
      | nil => rfl
      | cons b r => obtain ⟨ad, e, _⟩ := hc 0 (by simp); cases e
    subst hB0
    exact ⟨v, w, run_append_owned_none w base R.sl ty R.ty j0 R.n R.under hj v _ _ hA, by simpa using hA, ⟨rfl, rfl, rfl, Nat.le_refl _, fun _ _ _ => rfl⟩, .inl rfl⟩
  | some ad =>
    have hsrc : ∀ j u, (ecells R B)[j]? = some u → w.cell? (ad.add j) = some u := by
      intro i u hu
      have hi : i < B.length * R.n := by have := (List.getElem?_eq_some_iff.1 hu).1; rwa [ecells_len] at this
      have hq : i / R.n < B.length := Nat.div_lt_of_lt_mul (by rw [Nat.mul_comm]; exact hi)
      have hm : i % R.n < R.n := Nat.mod_lt _ R.pos
      have he : i / R.n * R.n + i % R.n = i := by rw [Nat.mul_comm]; exact Nat.div_add_mod i R.n
      obtain ⟨ad', e, _, h1⟩ := hc (i / R.n) hq
      cases e
      have h2 := ecells_at B hq hm
      rw [he, hu] at h2
      have h3 := h1 (i % R.n) u h2.symm
      rwa [he] at h3
    have hby : (A.length + B.length) * R.bytes ≤ 140737488355328 := Nat.le_trans (Nat.mul_le_mul hl R.small) (by decide)
    obtain ⟨r, w', hr, h2, h3, _, h5⟩ := run_append_own_at (P := Tryz.prog) w base R.sl ty R.ty j0 R.zero R.n R.bytes R.under hj hy0 hy1 hy2 R.zlen R.pos v A.length (ecells R A) hA ad B.length c (ecells R B) (ecells_len B) hsrc (ecells_one B) (by unfold maxLen; omega) hby hb
    exact ⟨r, w', hr, ownE.app h2 rfl, h3, h5⟩
set_option maxRecDepth 100000 in
theorem wpList_append_elts (R : Elt α) {w : World} {ops : Array Oper} {rest : List Oper} {o : Oper} {a : Act} {Q : Exit → Act → World → Prop} (hgd : o.guard = none) (s x : Operand)
    (ho : o.op = .call { callee := .builtin .append, args := #[s, x], argTypes := #[R.sl, R.sl] }) (base : Nat) (v y : Value) (A B : List α) (hs : a.eval s = v) (hx : a.eval x = y)
    (hA : ownE R w base v A) (hB : eltsAt R w y B) (hnil : nilNone y) (hl : A.length + B.length ≤ 1048576) (hb : base ≤ w.heap.size)
    (h : ∀ r w', ownE R w' base r (A ++ B) → w.grownBy w' v.ownBlock → (r.ownBlock = v.ownBlock ∨ r.ownBlock = some w.heap.size) → wpList Tryz.prog ops Q rest (a.put o.dst r) w') : wpList Tryz.prog ops Q (o :: rest) a w := by
  refine wpList_plain hgd fun K hK => ?_
  obtain ⟨r, w', hr, h2, h3, h4⟩ := run_append_elts R o.type hA hB hnil hl hb
  unfold Oper.wp execOp
  simp only [ho, resolve, invoke, builtin, Sem.run_bind, Sem.run_pure, Result.andThen_ok, List.map_toArray, List.map_cons, List.map_nil, hs, hx, hr]
  exact hK _ _ (h r w' h2 h3 h4)
set_option maxRecDepth 100000 in
/-- The same in a region that draws its order. -/
theorem step_append_elts (R : Elt α) {w : World} {ops : Array Oper} {o : Oper} {a : Act} {K : Act → World → Prop} {Q : Exit → Act → World → Prop} {E : Prop} (hgd : o.guard = none) (s x : Operand)
    (ho : o.op = .call { callee := .builtin .append, args := #[s, x], argTypes := #[R.sl, R.sl] }) (base : Nat) (v y : Value) (A B : List α) (hs : a.eval s = v) (hx : a.eval x = y)
    (hA : ownE R w base v A) (hB : eltsAt R w y B) (hnil : nilNone y) (hl : A.length + B.length ≤ 1048576) (hb : base ≤ w.heap.size)
    (h : ∀ r w', ownE R w' base r (A ++ B) → w.grownBy w' v.ownBlock → (r.ownBlock = v.ownBlock ∨ r.ownBlock = some w.heap.size) → K (a.put o.dst r) w') :
    if Region.wanted o (yielded ops a.tmps) = true then Oper.wp Tryz.prog o a w K Q else E := by
  have hw : Region.wanted o (yielded ops a.tmps) = true := by simp [Region.wanted, hgd]
  rw [if_pos hw]
  obtain ⟨r, w', hr, h2, h3, h4⟩ := run_append_elts R o.type hA hB hnil hl hb
  unfold Oper.wp execOp
  simp only [ho, resolve, invoke, builtin, Sem.run_bind, Sem.run_pure, Result.andThen_ok, List.map_toArray, List.map_cons, List.map_nil, hs, hx, hr]
  exact h r w' h2 h3 h4
set_option maxRecDepth 100000 in
/-- A row of one element, laid. -/
theorem own_elt (R : Elt α) (w : World) (x : α) : ownE R (w.alloc (.cells (R.enc x).toArray R.ty)) w.heap.size (.slice (some ⟨w.heap.size, 0, none⟩) 1 1) [x] := by
  refine ⟨ecells_len [x], .inr ⟨w.heap.size, 1, (R.enc x).toArray, rfl, Nat.le_refl _, heap_alloc_new w _, Nat.le_refl _, by unfold maxLen; omega, ?_, ?_⟩⟩
  · rw [List.size_toArray, R.len, Nat.one_mul]
  · rw [List.take_of_length_le (by simp [R.len])]; simp [ecells]
set_option maxRecDepth 100000 in
theorem one_elt (R : Elt α) (w : World) (x : α) : eltsAt R (w.alloc (.cells (R.enc x).toArray R.ty)) (.slice (some ⟨w.heap.size, 0, none⟩) 1 1) [x] := (own_elt R w x).reads
set_option maxRecDepth 100000 in
theorem someNone (a : Addr) (n c : Nat) : nilNone (.slice (some a) n c) := fun _ _ e => by cases e
/-- Block g is a row of elements L, that may be written. -/
def rowE (R : Elt α) (w : World) (g : Nat) (L : List α) : Prop := ∃ cs, w.heap[g]? = some (.cells cs R.ty (0, 0)) ∧ cs.toList = ecells R L
set_option maxRecDepth 100000 in
theorem rowE.lt {w : World} {g : Nat} {L : List α} (h : rowE R w g L) : g < w.heap.size := by obtain ⟨cs, hg, _⟩ := h; exact (Array.getElem?_eq_some_iff.1 hg).1
set_option maxRecDepth 100000 in
theorem rowE.kept {w w' : World} {g : Nat} {L : List α} (h : rowE R w g L) (hk : w'.heap[g]? = w.heap[g]?) : rowE R w' g L := by
  obtain ⟨cs, hg, h1⟩ := h
  exact ⟨cs, hk.trans hg, h1⟩
set_option maxRecDepth 100000 in
theorem rowE.cells {w : World} {g j i : Nat} {L : List α} (h : rowE R w g L) (hj : j < L.length) (hi : i < R.n) : w.cell? ⟨g, j * R.n + i, none⟩ = (R.enc L[j])[i]? ∧ w.frozen? ⟨g, j * R.n + i, none⟩ = false := by
  obtain ⟨cs, hg, h1⟩ := h
  refine ⟨?_, Lib.frozen_of_heap hg _⟩
  rw [cell_of_row w g _ cs R.ty (0, 0) hg, ← ecells_at L hj hi, ← h1]
  simp
set_option maxRecDepth 100000 in
theorem rowE.own {w : World} {g b : Nat} {L : List α} (h : rowE R w g L) (hb : b ≤ g) (hl : L.length ≤ maxLen) : ownE R w b (.slice (some ⟨g, 0, none⟩) L.length L.length) L := by
  obtain ⟨cs, hg, h1⟩ := h
  have hs : cs.size = L.length * R.n := by rw [← ecells_len, ← h1]; simp
  refine ⟨ecells_len L, .inr ⟨g, L.length, cs, rfl, hb, hg, Nat.le_refl _, hl, hs, ?_⟩⟩
  rw [h1, List.take_of_length_le (by rw [ecells_len]; exact Nat.le_refl _)]
set_option maxRecDepth 100000 in
theorem ecells_set {L : List α} {x : α} {i : Nat} {u : Value} (y : α) (hy : R.enc y = (R.enc x).set i u) (hi : i < R.n) : ∀ {j : Nat} (hj : j < L.length), L[j] = x → ecells R (L.set j y) = (ecells R L).set (j * R.n + i) u := by
  induction L with
  | nil => intro j hj; simp at hj
  | cons q r ih =>
    intro j hj hx
    have e : ∀ q, ecells R (q :: r) = R.enc q ++ ecells R r := fun _ => rfl
    cases j with
    | zero =>
      have hq : q = x := hx
      subst hq
      rw [List.set_cons_zero, e, e, Nat.zero_mul, Nat.zero_add, List.set_append_left _ _ (by rw [R.len]; exact hi), hy]
    | succ j =>
      have e2 : ecells R (q :: r.set j y) = R.enc q ++ ecells R (r.set j y) := rfl
      rw [List.set_cons_succ, e2, e, ih (by simpa using hj) (by simpa using hx), List.set_append_right _ _ (by rw [R.len, Nat.add_mul]; omega), R.len]
      congr 2
      rw [Nat.add_mul]; omega
set_option maxRecDepth 100000 in
/-- One cell of one element is written: the element y is x with that cell turned. -/
theorem rowE.store {w : World} {g j i : Nat} {L : List α} {u : Value} (h : rowE R w g L) (y : α) (hj : j < L.length) (hi : i < R.n) (hy : R.enc y = (R.enc L[j]).set i u) : rowE R (w.setCell ⟨g, j * R.n + i, none⟩ u) g (L.set j y) := by
  obtain ⟨cs, hg, h1⟩ := h
  refine ⟨_, heap_setCell_at hg u, ?_⟩
  rw [Array.toList_setIfInBounds, h1, ecells_set y hy hi hj rfl]
set_option maxRecDepth 100000 in
/-- A fresh row of zeros. -/
theorem madeCells_elts (R : Elt α) (z : α) (hz : R.zero.cells.toList = R.enc z) (n : Nat) : (madeCells R.zero.cells (n * R.n)).toList = ecells R (List.replicate n z) := by
  refine List.ext_getElem? fun i => ?_
  by_cases hi : i < n * R.n
  · have hq : i / R.n < n := Nat.div_lt_of_lt_mul (by rw [Nat.mul_comm]; exact hi)
    have hm : i % R.n < R.n := Nat.mod_lt _ R.pos
    have he : i / R.n * R.n + i % R.n = i := by rw [Nat.mul_comm]; exact Nat.div_add_mod i R.n
    have h1 := ecells_at (R := R) (List.replicate n z) (j := i / R.n) (by simpa using hq) hm
    rw [he] at h1
    rw [h1, List.getElem_replicate, ← hz]
    have hm' : i % R.zero.cells.size < R.zero.cells.size := by rw [R.zlen]; exact hm
    simp only [madeCells, Array.toList_map, List.getElem?_map, Array.toList_range, List.getElem?_range hi, Option.map_some]
    rw [getElem!_pos R.zero.cells _ hm', Array.getElem?_toList, Array.getElem?_eq_getElem (by rw [R.zlen]; exact hm)]
    simp only [R.zlen]
  · rw [List.getElem?_eq_none (by simp [madeCells]; omega), List.getElem?_eq_none (by rw [ecells_len]; simp; omega)]
set_option maxRecDepth 100000 in
theorem rowE_made (R : Elt α) (z : α) (hz : R.zero.cells.toList = R.enc z) {w : World} {b n g : Nat} (h : w.ownsRow b R.ty R.n (.slice (some ⟨g, 0, none⟩) n n) n (madeCells R.zero.cells (n * R.n)).toList) : rowE R w g (List.replicate n z) := by
  rw [madeCells_elts R z hz] at h
  obtain ⟨h1, h2⟩ := h
  rcases h2 with ⟨h0, _⟩ | ⟨g', cap, cur, hv, _, hg, _, _, h3, h4⟩
  · cases h0
  · cases hv
    refine ⟨cur, hg, ?_⟩
    rw [List.take_of_length_le (by simp [h3])] at h4
    exact h4
end Go.Proofs.YtnmacalbbmeedaaGreat
/- Rows of pairs, of merges and of texts; a row of pairs as an argument. -/
namespace Go.Proofs.YtnmacalbbmeedaaGreat
open Go.ChangeShapes Go.WideShapes Go.RowKit

def pairE : Elt (Int × Int) where
  ty := 77
  sl := 74
  n := 2
  bytes := 16
  zero := .agg #[.int .i64 0, .int .i64 0]
  enc := fun p => [.int .i64 p.1, .int .i64 p.2]
  under := Tryz.underlying74
  info := by kernel_rfl
  pos := by decide
  small := by decide
  zlen := by kernel_rfl
  len := fun _ => rfl
  one := fun x u hu => by
    simp only [List.mem_cons, List.not_mem_nil, or_false] at hu
    rcases hu with rfl | rfl <;> rfl
def mergeE : Elt (ByteArray × ByteArray) where
  ty := 42
  sl := 27
  n := 2
  bytes := 32
  zero := .agg #[.string ⟨#[]⟩, .string ⟨#[]⟩]
  enc := fun p => [.string p.1, .string p.2]
  under := Tryz.underlying27
  info := by kernel_rfl
  pos := by decide
  small := by decide
  zlen := by kernel_rfl
  len := fun _ => rfl
  one := fun x u hu => by
    simp only [List.mem_cons, List.not_mem_nil, or_false] at hu
    rcases hu with rfl | rfl <;> rfl
def textE : Elt ByteArray where
  ty := 9
  sl := 52
  n := 1
  bytes := 16
  zero := .string ⟨#[]⟩
  enc := fun t => [.string t]
  under := Tryz.underlying52
  info := by kernel_rfl
  pos := by decide
  small := by decide
  zlen := by kernel_rfl
  len := fun _ => rfl
  one := fun x u hu => by
    simp only [List.mem_cons, List.not_mem_nil, or_false] at hu
    rcases hu with rfl; rfl
set_option maxRecDepth 100000 in
theorem pairs_at {w wr : World} {L : List (Int × Int)} {ad : Addr} {n cap : Nat} (h : eltsAt pairE w (.slice (some ad) n cap) L) (hb : Below w.heap.size w wr) {k : Nat} (hk : k < L.length) :
    wr.cell? (ad.add (k * 2)) = some (.int .i64 L[k].1) ∧ wr.cell? ⟨(ad.add (k * 2)).block, (ad.add (k * 2)).off + 1, none⟩ = some (.int .i64 L[k].2) := by
  have := elts_at h hb hk
  exact ⟨this 0 _ rfl, by rw [← two_cell]; exact this 1 _ rfl⟩
set_option maxRecDepth 100000 in
theorem merges_at {w wr : World} {L : List (ByteArray × ByteArray)} {ad : Addr} {n cap : Nat} (h : eltsAt mergeE w (.slice (some ad) n cap) L) (hb : Below w.heap.size w wr) {k : Nat} (hk : k < L.length) :
    wr.cell? (ad.add (k * 2)) = some (.string L[k].1) ∧ wr.cell? ⟨(ad.add (k * 2)).block, (ad.add (k * 2)).off + 1, none⟩ = some (.string L[k].2) := by
  have := elts_at h hb hk
  exact ⟨this 0 _ rfl, by rw [← two_cell]; exact this 1 _ rfl⟩
end Go.Proofs.YtnmacalbbmeedaaGreat
/- The document's own Texts and Join: a word as its bytes, and behind a merge. -/
namespace Go.Proofs.YtnmacalbbmeedaaGreat
open Go.RowKit

/-- A word's bytes, each as a text. -/
def bytesT (s : ByteArray) : List ByteArray := (bs s).map fun b => ⟨#[b]⟩
set_option maxRecDepth 100000 in
theorem bytesT_len (s : ByteArray) : (bytesT s).length = s.size := by rw [bytesT, List.length_map, bs_size]
set_option maxRecDepth 100000 in
theorem bytesT_one (s : ByteArray) : ∀ t ∈ bytesT s, t.size = 1 := by
  intro t ht
  obtain ⟨b, _, rfl⟩ := List.mem_map.1 ht
  rfl
set_option maxRecDepth 100000 in
theorem bytesT_take {s y : ByteArray} {k : Nat} (hk : k < s.size) (h : (bs s).take (k + 1) = (bs s).take k ++ bs y) : (bytesT s).take (k + 1) = (bytesT s).take k ++ [y] := by
  have hk' : k < (bs s).length := by rw [bs_size]; exact hk
  rw [List.take_succ_eq_append_getElem hk'] at h
  have e := List.append_cancel_left h
  have ey : y = ⟨#[(bs s)[k]]⟩ := by
    apply bs_inj
    rw [← e]
  unfold bytesT
  rw [← List.map_take, ← List.map_take, List.take_succ_eq_append_getElem hk', List.map_append, ey]
  rfl
def TxRel (s : ByteArray) (w : World) (v i : Value) (wr : World) : Prop :=
  ∃ k : Nat, i = .int .i64 (k : Int) ∧ k ≤ s.size ∧ ownE textE wr w.heap.size v ((bytesT s).take k) ∧ Below w.heap.size w wr
def TxRet (s : ByteArray) (w : World) (e : Ending) (w' : World) : Prop := ∃ v, e = .returned v ∧ ownE textE w' w.heap.size v (bytesT s) ∧ Below w.heap.size w w'
set_option maxRecDepth 100000 in
set_option maxHeartbeats 2000000 in
theorem rtexts_any (s : ByteArray) (w : World) (hs : s.size ≤ 1000000) : Calls Tryz.prog 38 #[.string s] w fun e w' => TxRet s w e w' := by
  go_enter Tryz.func38, Tryz.ntmps38
  go_wp2
  go_loopw [3, 4] (fun v i wr => TxRel s w v i wr) (fun _ i _ => s.size - (intOf i).toNat)
  case atStart => exact ⟨0, rfl, Nat.zero_le _, ownE.nil w _, Below.refl _ w⟩
  case round =>
    obtain ⟨k, rfl, hk, ho, hbel⟩ := hrel
    have HO := Lib.hid ho; have HB := Lib.hid hbel
    have hlen := bytesT_len s
    clear ho hbel
    by_cases hgo : k < s.size
    · have hgoI : (k : Int) < (s.size : Int) := by omega
      obtain ⟨y, hcut, hby, _⟩ := cut_mid s k (k + 1) ((k : Int) + 1) (by simp) (by omega) (by omega)
      have hwk : IntKind.i64.wrap ((k : Int) + 1) = (k : Int) + 1 := IntWalk.i64_in _ (by omega)
      have HT := Lib.hid (bytesT_take hgo hby)
      have HA : Hid (ownE textE (wr.alloc (.cells #[.string y] 9)) w.heap.size u3 ((bytesT s).take k)) := Lib.hid (HO.out.alloc _)
      have HE : Hid (eltsAt textE (wr.alloc (.cells #[.string y] 9)) (.slice (some ⟨wr.heap.size, 0, none⟩) 1 1) [y]) := Lib.hid (one_elt textE wr y)
      have HZ : Hid (w.heap.size ≤ (wr.alloc (.cells #[.string y] 9)).heap.size) := Lib.hid (by rw [World.size_alloc]; have := HB.out.size; omega)
      clear hby
      go_wp2_with (at_builtin; refine wpList_append_elts textE rfl (.tmp 11) (.tmp 17) rfl w.heap.size u3 _ ((bytesT s).take k) [y] rfl rfl HA.out HE.out (someNone _ _ _) (by simp; omega) HZ.out ?_; intro r5 w5 hown5 hg5 _; have HO5 := Lib.hid hown5; have HG5 := Lib.hid hg5; clear hown5 hg5)
      go_roundw
      case measure => simp [intOf]; omega
      case rel => exact ⟨k + 1, by simp, hgo, by rw [HT.out]; exact HO5.out, (HB.out.alloc HB.out.size _).grown HG5.out HZ.out fun g e => (HO.out.lt g e).1⟩
    · have hgoI : ¬ (k : Int) < (s.size : Int) := by omega
      have HT : Hid ((bytesT s).take k = bytesT s) := Lib.hid (List.take_of_length_le (by omega))
      go_wp2
      go_ret
      exact ⟨_, rfl, by have := HO.out; rwa [HT.out] at this, HB.out⟩
/-! Join. -/
set_option maxRecDepth 100000 in
theorem join_pair {m : Mg} {W : List ByteArray} {i : Nat} (h : i + 1 < W.length) (h1 : W[i]'(by omega) = m.1) (h2 : W[i + 1] = m.2) : joinT m (W.drop i) = (m.1 ++ m.2) :: joinT m (W.drop (i + 2)) := by
  rw [List.drop_eq_getElem_cons (by omega : i < W.length), List.drop_eq_getElem_cons h]
  exact if_pos ⟨h1, h2⟩
set_option maxRecDepth 100000 in
theorem join_next {m : Mg} {W : List ByteArray} {i : Nat} (h : i < W.length) (hn : ∀ h' : i + 1 < W.length, ¬ (W[i] = m.1 ∧ W[i + 1] = m.2)) : joinT m (W.drop i) = W[i] :: joinT m (W.drop (i + 1)) := by
  rw [List.drop_eq_getElem_cons h]
  by_cases h' : i + 1 < W.length
  · rw [List.drop_eq_getElem_cons h']
    exact if_neg (hn h')
  · rw [List.drop_of_length_le (by omega)]
    rfl
set_option maxRecDepth 100000 in
theorem txt_cell {w wr : World} {L : List ByteArray} {ad : Addr} {n cap : Nat} (h : eltsAt textE w (.slice (some ad) n cap) L) (hb : Below w.heap.size w wr) {k : Nat} (hk : k < L.length) : wr.cell? (ad.add k) = some (.string L[k]) := by
  have := elts_at h hb hk 0 _ rfl
  rwa [show textE.n = 1 from rfl, Nat.mul_one, Nat.add_zero] at this
/-- What is joined so far, and what comes. -/
def JnRel (m : Mg) (W : List ByteArray) (w : World) (base : Nat) (v i : Value) (wr : World) : Prop :=
  ∃ (k : Nat) (O : List ByteArray), i = .int .i64 (k : Int) ∧ k ≤ W.length ∧ O ++ joinT m (W.drop k) = joinT m W ∧ O.length ≤ k ∧ ownE textE wr base v O ∧ Below base w wr
def JnRet (m : Mg) (W : List ByteArray) (w : World) (e : Ending) (w' : World) : Prop := ∃ v, e = .returned v ∧ ownE textE w' w.heap.size v (joinT m W) ∧ Below w.heap.size w w'
end Go.Proofs.YtnmacalbbmeedaaGreat
