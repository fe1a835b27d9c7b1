/- Rows of structs, whatever they are: read, owned, made, written. -/
import Derived.Test.YtbacbgpemaldbaaMem
import Derived.Test.YtbacbgpemaldbaaArgs
namespace Go.Proofs.Ytbacbgpemaldbaa
open Go.RowKit

/-- What a row's elements are: their type, the row's, how many cells and bytes each has, their zero, and each one's cells. -/
structure Elt (α : Type) where
  ty : TypeId
  sl : TypeId
  n : Nat
  bytes : Nat
  zero : Value
  enc : α → List Value
  under : Try.prog.underlying sl = some (.slice ty)
  info : (Try.prog.info? ty).map (fun i => (i.zero, i.size, i.bytes)) = some (some zero, n, bytes)
  pos : 0 < n
  small : bytes ≤ 100
  zlen : zero.cells.size = n
  len : ∀ x, (enc x).length = n
  one : ∀ x, ∀ u ∈ enc x, u.oneCell' = true
variable {α : Type} {R : Elt α}
def ecells (R : Elt α) (L : List α) : List Value := L.flatMap R.enc
set_option maxRecDepth 100000 in
theorem ecells_len (L : List α) : (ecells R L).length = L.length * R.n := by
  induction L with
  | nil => simp [ecells]
  | cons q r ih => unfold ecells at ih ⊢; rw [List.flatMap_cons, List.length_append, ih, R.len, List.length_cons, Nat.add_mul]; omega
set_option maxRecDepth 100000 in
theorem ecells_append (a b : List α) : ecells R (a ++ b) = ecells R a ++ ecells R b := by simp [ecells]
set_option maxRecDepth 100000 in
theorem ecells_one (L : List α) : ∀ u ∈ ecells R L, u.oneCell' = true := by
  intro u hu
  obtain ⟨p, _, hp⟩ := List.mem_flatMap.1 hu
  exact R.one p u hp
set_option maxRecDepth 100000 in
theorem ecells_at : ∀ (L : List α) {j : Nat} (hj : j < L.length) {i : Nat}, i < R.n → (ecells R L)[j * R.n + i]? = (R.enc L[j])[i]?
  | q :: r, 0, _, i, hi => by
    have e : ecells R (q :: r) = R.enc q ++ ecells R r := rfl
    rw [e, Nat.zero_mul, Nat.zero_add, List.getElem?_append_left (by rw [R.len]; exact hi)]
    rfl
  | q :: r, j + 1, hj, i, hi => by
    have ih := ecells_at r (j := j) (by simpa using hj) hi
    have e : ecells R (q :: r) = R.enc q ++ ecells R r := rfl
    rw [e, List.getElem?_append_right (by rw [R.len, Nat.add_mul]; omega), R.len]
    have e1 : (j + 1) * R.n + i - R.n = j * R.n + i := by rw [Nat.add_mul]; omega
    rw [e1, ih]
    rfl
/-- The slice value v reads as the elements L. -/
def eltsAt (R : Elt α) (w : World) (v : Value) (L : List α) : Prop :=
  ∃ a cap, v = .slice a L.length cap ∧ ∀ j (h : j < L.length), ∃ ad, a = some ad ∧ ad.block < w.heap.size ∧ ∀ i u, (R.enc L[j])[i]? = some u → w.cell? (ad.add (j * R.n + i)) = some u
set_option maxRecDepth 100000 in
theorem eltsAt.below {w w' : World} {v : Value} {L : List α} {B : Nat} (h : eltsAt R w v L) (hb : Below B w w') (hB : w.heap.size ≤ B) : eltsAt R w' v L := by
  obtain ⟨a, cap, rfl, hc⟩ := h
  refine ⟨a, cap, rfl, fun j hj => ?_⟩
  obtain ⟨ad, rfl, hlt, h1⟩ := hc j hj
  exact ⟨ad, rfl, Nat.lt_of_lt_of_le hlt hb.size, fun i u hu => (hb.cell (by rw [add_block]; omega)).trans (h1 i u hu)⟩
set_option maxRecDepth 100000 in
theorem eltsAt.kept {w w' : World} {v : Value} {L : List α} (h : eltsAt R w v L) (hs : w.heap.size ≤ w'.heap.size) (hk : ∀ a n c, v = .slice (some a) n c → w'.heap[a.block]? = w.heap[a.block]?) : eltsAt R w' v L := by
  obtain ⟨a, cap, rfl, hc⟩ := h
  refine ⟨a, cap, rfl, fun j hj => ?_⟩
  obtain ⟨ad, rfl, hlt, h1⟩ := hc j hj
  refine ⟨ad, rfl, Nat.lt_of_lt_of_le hlt hs, fun i u hu => ?_⟩
  rw [← h1 i u hu]
  exact World.cell?_of_block (by rw [add_block]; exact hk ad _ _ rfl)
set_option maxRecDepth 100000 in
theorem eltsAt.drew {w : World} {v : Value} {L : List α} (h : eltsAt R w v L) (n : Nat) : eltsAt R (w.drewN n) v L := h
set_option maxRecDepth 100000 in
theorem eltsAt.nil (w : World) : eltsAt R w (.slice none 0 0) [] := ⟨none, 0, rfl, fun j hj => by simp at hj⟩
set_option maxRecDepth 100000 in
/-- The cells of one element, in a later world. -/
theorem elts_at {w wr : World} {L : List α} {ad : Addr} {n cap : Nat} (h : eltsAt R w (.slice (some ad) n cap) L) (hb : Below w.heap.size w wr) {k : Nat} (hk : k < L.length) : ∀ i u, (R.enc L[k])[i]? = some u → wr.cell? (ad.add (k * R.n + i)) = some u := by
  obtain ⟨a, cap', e, hc⟩ := h.below hb (Nat.le_refl _)
  cases e
  obtain ⟨ad', e, _, h1⟩ := hc k hk
  cases e
  exact h1
/-- The slice value v owns the elements L. -/
def ownE (R : Elt α) (w : World) (base : Nat) (v : Value) (L : List α) : Prop := w.ownsRow base R.ty R.n v L.length (ecells R L)
set_option maxRecDepth 100000 in
theorem ownE.lt {w : World} {base : Nat} {v : Value} {L : List α} (h : ownE R w base v L) : ∀ k, v.ownBlock = some k → base ≤ k ∧ k < w.heap.size := World.ownsRow.lt h
set_option maxRecDepth 100000 in
theorem ownE.kept {w w' : World} {base : Nat} {v : Value} {L : List α} (h : ownE R w base v L) (hk : ∀ g, v.ownBlock = some g → w'.heap[g]? = w.heap[g]?) : ownE R w' base v L := by
  refine ⟨h.1, ?_⟩
  rcases h.2 with hn | ⟨g, cap, cur, rfl, hb, hgg, rest⟩
  · exact .inl hn
  · exact .inr ⟨g, cap, cur, rfl, hb, by rw [hk g rfl]; exact hgg, rest⟩
set_option maxRecDepth 100000 in
theorem ownE.below {w w' : World} {base : Nat} {v : Value} {L : List α} (h : ownE R w base v L) (hb : Below w.heap.size w w') : ownE R w' base v L := h.kept fun g hg => hb.block g (h.lt g hg).2
set_option maxRecDepth 100000 in
theorem ownE.block {w : World} {base : Nat} {v : Value} {L : List α} (h : ownE R w base v L) : ∀ g, v.ownBlock = some g → ∃ cs, w.heap[g]? = some (.cells cs R.ty (0, 0)) := by
  intro g hg
  rcases h.2 with ⟨rfl, _⟩ | ⟨g', cap, cur, rfl, _, hgg, _⟩
  · simp [Value.ownBlock] at hg
  · simp [Value.ownBlock] at hg; subst hg; exact ⟨cur, hgg⟩
set_option maxRecDepth 100000 in
theorem ownE.mono {w : World} {b b' : Nat} {v : Value} {L : List α} (h : ownE R w b v L) (hb : b' ≤ b) : ownE R w b' v L := by
  refine ⟨h.1, ?_⟩
  rcases h.2 with hn | ⟨g, cap, cur, rfl, hb2, rest⟩
  · exact .inl hn
  · exact .inr ⟨g, cap, cur, rfl, Nat.le_trans hb hb2, rest⟩
set_option maxRecDepth 100000 in
theorem ownE.nil (w : World) (b : Nat) : ownE R w b (.slice none 0 0) [] := ⟨by simp [ecells], .inl ⟨rfl, rfl⟩⟩
set_option maxRecDepth 100000 in
theorem ownE.reads {w : World} {base : Nat} {v : Value} {L : List α} (h : ownE R w base v L) : eltsAt R w v L := by
  rcases h.2 with ⟨rfl, h0⟩ | ⟨g, cap, cur, rfl, hb, hg, h1, h2, h3, h4⟩
  · refine ⟨none, 0, by rw [h0], fun j hj => by omega⟩
  · refine ⟨_, cap, rfl, fun j hj => ⟨_, rfl, (Array.getElem?_eq_some_iff.1 hg).1, fun i u hu => ?_⟩⟩
    have hi : i < R.n := by have := (List.getElem?_eq_some_iff.1 hu).1; rwa [R.len] at this
    rw [← ecells_at L hj hi] at hu
    have hi2 : j * R.n + i < L.length * R.n := by have := (List.getElem?_eq_some_iff.1 hu).1; rwa [ecells_len] at this
    rw [add_zero_off, cell_of_row w g _ cur R.ty (0, 0) hg, ← hu, ← h4, List.getElem?_take_of_lt hi2]
    simp
set_option maxRecDepth 100000 in
theorem ownE.form {w : World} {base : Nat} {v : Value} {L : List α} (h : ownE R w base v L) : ∃ a cap, v = .slice a L.length cap ∧ L.length ≤ cap := by
  rcases h.2 with ⟨rfl, h0⟩ | ⟨g, cap, cur, rfl, _, _, h1, _⟩
  · exact ⟨none, 0, by rw [h0], by omega⟩
  · exact ⟨_, cap, rfl, h1⟩
set_option maxRecDepth 100000 in
theorem ownE.nilNone {w : World} {base : Nat} {v : Value} {L : List α} (h : ownE R w base v L) : nilNone v := by
  rcases h.2 with ⟨rfl, h0⟩ | ⟨g, cap, cur, rfl, _⟩
  · intro n c e; cases e; rfl
  · intro n c e; cases e
set_option maxRecDepth 100000 in
theorem ownE.app {w2 : World} {b : Nat} {r : Value} {A B : List α} {n : Nat} (h : w2.ownsRow b R.ty R.n r (A.length + n) (ecells R A ++ ecells R B)) (hn : n = B.length) : ownE R w2 b r (A ++ B) := by
  unfold ownE; rw [List.length_append, ecells_append, ← hn]; exact h
set_option maxRecDepth 100000 in
theorem ownE.alloc {w : World} {b : Nat} {v : Value} {A : List α} (h : ownE R w b v A) (o : Obj) : ownE R (w.alloc o) b v A := h.kept fun g hg => Below.heap_alloc _ _ _ (h.lt g hg).2
set_option maxRecDepth 100000 in
theorem ownE.drewN {w : World} {b : Nat} {v : Value} {L : List α} (h : ownE R w b v L) (n : Nat) : ownE R (w.drewN n) b v L := h
set_option maxRecDepth 100000 in
theorem ownE.drew {w : World} {b : Nat} {v : Value} {L : List α} (h : ownE R w b v L) : ownE R w.drew b v L := h
set_option maxRecDepth 100000 in
theorem ownE_some {w : World} {b n cap : Nat} {a : Option Addr} {M : List α} (h : ownE R w b (.slice a n cap) M) (hM : 0 < M.length) : ∃ g, a = some ⟨g, 0, none⟩ ∧ b ≤ g := by
  rcases h.2 with ⟨_, h1⟩ | ⟨g', cap', cur, hv, hb, _⟩
  · omega
  · cases hv; exact ⟨g', rfl, hb⟩
set_option maxRecDepth 100000 in
/-- 'append(a, b...)': a is owned, b is read. -/
theorem run_append_elts (R : Elt α) {w : World} {base : Nat} {v x : Value} {A B : List α} (ty : TypeId) (hA : ownE R w base v A) (hB : eltsAt R w x B) (hnil : nilNone x) (hl : A.length + B.length ≤ 1048576) (hb : base ≤ w.heap.size) :
    ∃ r w', (Builtin.append_ #[R.sl, R.sl] ty #[v, x]).run Try.prog w = .ok r w' ∧ ownE R w' base r (A ++ B) ∧ w.grownBy w' v.ownBlock ∧ (r.ownBlock = v.ownBlock ∨ r.ownBlock = some w.heap.size) := by
  obtain ⟨j0, hj, hy0, hy1, hy2⟩ := info_parts R.info
  obtain ⟨a, c, rfl, hc⟩ := hB
  cases a with
  | none =>
    obtain rfl := hnil _ _ rfl
    have hB0 : B = [] := by
      cases B with
      | nil => rfl
      | cons b r => obtain ⟨ad, e, _⟩ := hc 0 (by simp); cases e
    subst hB0
    exact ⟨v, w, run_append_owned_none w base R.sl ty R.ty j0 R.n R.under hj v _ _ hA, by simpa using hA, ⟨rfl, rfl, rfl, Nat.le_refl _, fun _ _ _ => rfl⟩, .inl rfl⟩
  | some ad =>
    have hsrc : ∀ j u, (ecells R B)[j]? = some u → w.cell? (ad.add j) = some u := by
      intro i u hu
      have hi : i < B.length * R.n := by have := (List.getElem?_eq_some_iff.1 hu).1; rwa [ecells_len] at this
      have hq : i / R.n < B.length := Nat.div_lt_of_lt_mul (by rw [Nat.mul_comm]; exact hi)
      have hm : i % R.n < R.n := Nat.mod_lt _ R.pos
      have he : i / R.n * R.n + i % R.n = i := by rw [Nat.mul_comm]; exact Nat.div_add_mod i R.n
      obtain ⟨ad', e, _, h1⟩ := hc (i / R.n) hq
      cases e
      have h2 := ecells_at B hq hm
      rw [he, hu] at h2
      have h3 := h1 (i % R.n) u h2.symm
      rwa [he] at h3
    have hby : (A.length + B.length) * R.bytes ≤ 140737488355328 := Nat.le_trans (Nat.mul_le_mul hl R.small) (by decide)
    obtain ⟨r, w', hr, h2, h3, _, h5⟩ := run_append_own_at (P := Try.prog) w base R.sl ty R.ty j0 R.zero R.n R.bytes R.under hj hy0 hy1 hy2 R.zlen R.pos v A.length (ecells R A) hA ad B.length c (ecells R B) (ecells_len B) hsrc (ecells_one B) (by unfold maxLen; omega) hby hb
    exact ⟨r, w', hr, ownE.app h2 rfl, h3, h5⟩
set_option maxRecDepth 100000 in
theorem wpList_append_elts (R : Elt α) {w : World} {ops : Array Oper} {rest : List Oper} {o : Oper} {a : Act} {Q : Exit → Act → World → Prop} (hgd : o.guard = none) (s x : Operand)
    (ho : o.op = .call { callee := .builtin .append, args := #[s, x], argTypes := #[R.sl, R.sl] }) (base : Nat) (v y : Value) (A B : List α) (hs : a.eval s = v) (hx : a.eval x = y)
    (hA : ownE R w base v A) (hB : eltsAt R w y B) (hnil : nilNone y) (hl : A.length + B.length ≤ 1048576) (hb : base ≤ w.heap.size)
    (h : ∀ r w', ownE R w' base r (A ++ B) → w.grownBy w' v.ownBlock → (r.ownBlock = v.ownBlock ∨ r.ownBlock = some w.heap.size) → wpList Try.prog ops Q rest (a.put o.dst r) w') : wpList Try.prog ops Q (o :: rest) a w := by
  refine wpList_plain hgd fun K hK => ?_
  obtain ⟨r, w', hr, h2, h3, h4⟩ := run_append_elts R o.type hA hB hnil hl hb
  unfold Oper.wp execOp
  simp only [ho, resolve, invoke, builtin, Sem.run_bind, Sem.run_pure, Result.andThen_ok, List.map_toArray, List.map_cons, List.map_nil, hs, hx, hr]
  exact hK _ _ (h r w' h2 h3 h4)
set_option maxRecDepth 100000 in
/-- The same in a region that draws its order. -/
theorem step_append_elts (R : Elt α) {w : World} {ops : Array Oper} {o : Oper} {a : Act} {K : Act → World → Prop} {Q : Exit → Act → World → Prop} {E : Prop} (hgd : o.guard = none) (s x : Operand)
    (ho : o.op = .call { callee := .builtin .append, args := #[s, x], argTypes := #[R.sl, R.sl] }) (base : Nat) (v y : Value) (A B : List α) (hs : a.eval s = v) (hx : a.eval x = y)
    (hA : ownE R w base v A) (hB : eltsAt R w y B) (hnil : nilNone y) (hl : A.length + B.length ≤ 1048576) (hb : base ≤ w.heap.size)
    (h : ∀ r w', ownE R w' base r (A ++ B) → w.grownBy w' v.ownBlock → (r.ownBlock = v.ownBlock ∨ r.ownBlock = some w.heap.size) → K (a.put o.dst r) w') :
    if Region.wanted o (yielded ops a.tmps) = true then Oper.wp Try.prog o a w K Q else E := by
  have hw : Region.wanted o (yielded ops a.tmps) = true := by simp [Region.wanted, hgd]
  rw [if_pos hw]
  obtain ⟨r, w', hr, h2, h3, h4⟩ := run_append_elts R o.type hA hB hnil hl hb
  unfold Oper.wp execOp
  simp only [ho, resolve, invoke, builtin, Sem.run_bind, Sem.run_pure, Result.andThen_ok, List.map_toArray, List.map_cons, List.map_nil, hs, hx, hr]
  exact h r w' h2 h3 h4
set_option maxRecDepth 100000 in
/-- A row of one element, laid. -/
theorem own_elt (R : Elt α) (w : World) (x : α) : ownE R (w.alloc (.cells (R.enc x).toArray R.ty)) w.heap.size (.slice (some ⟨w.heap.size, 0, none⟩) 1 1) [x] := by
  refine ⟨ecells_len [x], .inr ⟨w.heap.size, 1, (R.enc x).toArray, rfl, Nat.le_refl _, heap_alloc_new w _, Nat.le_refl _, by unfold maxLen; omega, ?_, ?_⟩⟩
  · rw [List.size_toArray, R.len, Nat.one_mul]
  · rw [List.take_of_length_le (by simp [R.len])]; simp [ecells]
set_option maxRecDepth 100000 in
theorem one_elt (R : Elt α) (w : World) (x : α) : eltsAt R (w.alloc (.cells (R.enc x).toArray R.ty)) (.slice (some ⟨w.heap.size, 0, none⟩) 1 1) [x] := (own_elt R w x).reads
set_option maxRecDepth 100000 in
theorem someNone (a : Addr) (n c : Nat) : nilNone (.slice (some a) n c) := fun _ _ e => by cases e
/-- Block g is a row of elements L, that may be written. -/
def rowE (R : Elt α) (w : World) (g : Nat) (L : List α) : Prop := ∃ cs, w.heap[g]? = some (.cells cs R.ty (0, 0)) ∧ cs.toList = ecells R L
set_option maxRecDepth 100000 in
theorem rowE.lt {w : World} {g : Nat} {L : List α} (h : rowE R w g L) : g < w.heap.size := by obtain ⟨cs, hg, _⟩ := h; exact (Array.getElem?_eq_some_iff.1 hg).1
set_option maxRecDepth 100000 in
theorem rowE.kept {w w' : World} {g : Nat} {L : List α} (h : rowE R w g L) (hk : w'.heap[g]? = w.heap[g]?) : rowE R w' g L := by
  obtain ⟨cs, hg, h1⟩ := h
  exact ⟨cs, hk.trans hg, h1⟩
set_option maxRecDepth 100000 in
theorem rowE.cells {w : World} {g j i : Nat} {L : List α} (h : rowE R w g L) (hj : j < L.length) (hi : i < R.n) : w.cell? ⟨g, j * R.n + i, none⟩ = (R.enc L[j])[i]? ∧ w.frozen? ⟨g, j * R.n + i, none⟩ = false := by
  obtain ⟨cs, hg, h1⟩ := h
  refine ⟨?_, Lib.frozen_of_heap hg _⟩
  rw [cell_of_row w g _ cs R.ty (0, 0) hg, ← ecells_at L hj hi, ← h1]
  simp
set_option maxRecDepth 100000 in
theorem rowE.own {w : World} {g b : Nat} {L : List α} (h : rowE R w g L) (hb : b ≤ g) (hl : L.length ≤ maxLen) : ownE R w b (.slice (some ⟨g, 0, none⟩) L.length L.length) L := by
  obtain ⟨cs, hg, h1⟩ := h
  have hs : cs.size = L.length * R.n := by rw [← ecells_len, ← h1]; simp
  refine ⟨ecells_len L, .inr ⟨g, L.length, cs, rfl, hb, hg, Nat.le_refl _, hl, hs, ?_⟩⟩
  rw [h1, List.take_of_length_le (by rw [ecells_len]; exact Nat.le_refl _)]
set_option maxRecDepth 100000 in
theorem ecells_set {L : List α} {x : α} {i : Nat} {u : Value} (y : α) (hy : R.enc y = (R.enc x).set i u) (hi : i < R.n) : ∀ {j : Nat} (hj : j < L.length), L[j] = x → ecells R (L.set j y) = (ecells R L).set (j * R.n + i) u := by
  induction L with
  | nil => intro j hj; simp at hj
  | cons q r ih =>
    intro j hj hx
    have e : ∀ q, ecells R (q :: r) = R.enc q ++ ecells R r := fun _ => rfl
    cases j with
    | zero =>
      have hq : q = x := hx
      subst hq
      rw [List.set_cons_zero, e, e, Nat.zero_mul, Nat.zero_add, List.set_append_left _ _ (by rw [R.len]; exact hi), hy]
    | succ j =>
      have e2 : ecells R (q :: r.set j y) = R.enc q ++ ecells R (r.set j y) := rfl
      rw [List.set_cons_succ, e2, e, ih (by simpa using hj) (by simpa using hx), List.set_append_right _ _ (by rw [R.len, Nat.add_mul]; omega), R.len]
      congr 2
      rw [Nat.add_mul]; omega
set_option maxRecDepth 100000 in
/-- One cell of one element is written: the element y is x with that cell turned. -/
theorem rowE.store {w : World} {g j i : Nat} {L : List α} {u : Value} (h : rowE R w g L) (y : α) (hj : j < L.length) (hi : i < R.n) (hy : R.enc y = (R.enc L[j]).set i u) : rowE R (w.setCell ⟨g, j * R.n + i, none⟩ u) g (L.set j y) := by
  obtain ⟨cs, hg, h1⟩ := h
  refine ⟨_, heap_setCell_at hg u, ?_⟩
  rw [Array.toList_setIfInBounds, h1, ecells_set y hy hi hj rfl]
set_option maxRecDepth 100000 in
/-- A fresh row of zeros. -/
theorem madeCells_elts (R : Elt α) (z : α) (hz : R.zero.cells.toList = R.enc z) (n : Nat) : (madeCells R.zero.cells (n * R.n)).toList = ecells R (List.replicate n z) := by
  refine List.ext_getElem? fun i => ?_
  by_cases hi : i < n * R.n
  · have hq : i / R.n < n := Nat.div_lt_of_lt_mul (by rw [Nat.mul_comm]; exact hi)
    have hm : i % R.n < R.n := Nat.mod_lt _ R.pos
    have he : i / R.n * R.n + i % R.n = i := by rw [Nat.mul_comm]; exact Nat.div_add_mod i R.n
    have h1 := ecells_at (R := R) (List.replicate n z) (j := i / R.n) (by simpa using hq) hm
    rw [he] at h1
    rw [h1, List.getElem_replicate, ← hz]
    have hm' : i % R.zero.cells.size < R.zero.cells.size := by rw [R.zlen]; exact hm
    simp only [madeCells, Array.toList_map, List.getElem?_map, Array.toList_range, List.getElem?_range hi, Option.map_some]
    rw [getElem!_pos R.zero.cells _ hm', Array.getElem?_toList, Array.getElem?_eq_getElem (by rw [R.zlen]; exact hm)]
    simp only [R.zlen]
  · rw [List.getElem?_eq_none (by simp [madeCells]; omega), List.getElem?_eq_none (by rw [ecells_len]; simp; omega)]
set_option maxRecDepth 100000 in
theorem rowE_made (R : Elt α) (z : α) (hz : R.zero.cells.toList = R.enc z) {w : World} {b n g : Nat} (h : w.ownsRow b R.ty R.n (.slice (some ⟨g, 0, none⟩) n n) n (madeCells R.zero.cells (n * R.n)).toList) : rowE R w g (List.replicate n z) := by
  rw [madeCells_elts R z hz] at h
  obtain ⟨h1, h2⟩ := h
  rcases h2 with ⟨h0, _⟩ | ⟨g', cap, cur, hv, _, hg, _, _, h3, h4⟩
  · cases h0
  · cases hv
    refine ⟨cur, hg, ?_⟩
    rw [List.take_of_length_le (by simp [h3])] at h4
    exact h4
end Go.Proofs.Ytbacbgpemaldbaa
