/- Rows of numbers, read or owned. -/
import Derived.Test.YtbacbgpemaldbaaMem
import Derived.Test.YtbacbgpemaldbaaNums
import Derived.Test.YtbacbgpemaldbaaArgs
namespace Go.Proofs.Ytbacbgpemaldbaa
open Go.ChangeShapes Go.WideShapes Go.RowKit

set_option maxRecDepth 100000 in
theorem Try.info3 : (Try.prog.info? 3).map (fun i => (i.zero, i.size, i.bytes)) = some (some (.int .i64 0), 1, 8) := by kernel_rfl
/-- The slice value v reads as the numbers Z. -/
def intsAt (w : World) (v : Value) (Z : List Int) : Prop :=
  ∃ a cap, v = .slice a Z.length cap ∧ ∀ j (h : j < Z.length), ∃ ad, a = some ad ∧ ad.block < w.heap.size ∧ w.cell? (ad.add j) = some (.int .i64 Z[j])
/-- All numbers are of 64 bits. -/
def in64 (Z : List Int) : Prop := ∀ z ∈ Z, -9223372036854775808 ≤ z ∧ z ≤ 9223372036854775807
set_option maxRecDepth 100000 in
theorem in64.at {Z : List Int} (h : in64 Z) {j : Nat} (hj : j < Z.length) : -9223372036854775808 ≤ Z[j] ∧ Z[j] ≤ 9223372036854775807 := h _ (List.getElem_mem hj)
set_option maxRecDepth 100000 in
theorem open_row {H : Type} {enc : TypeId × Value → H} {W : World} {base : Nat} {v : Value} {d : DataW H} {p : List MemPlace} (ov : Value.okWide Try.prog W .any base 31 v)
    (h : DataW.Trod enc Try.prog W 0 (fun _ => true) true 31 v d p) : ∃ Z, intsAt W v Z ∧ Z.length ≤ maxLen ∧ in64 Z ∧ nilNone v := by
  obtain ⟨a0, len, cap, rfl⟩ := okWide_slice Try.underlying31 ov
  obtain ⟨fuel, hf⟩ := h
  rcases open_ints Try.underlying31 Try.underlying3 Try.cells3 hf with ⟨hcs, _⟩ | ⟨a, len', cap', zs, hcs, _, hl, hm, hz, _, hcell, hwf⟩
  · have e : Value.slice a0 len cap = .slice none 0 0 := by simpa [Value.cells] using hcs
    cases e
    exact ⟨[], ⟨none, 0, rfl, fun j hj => by simp at hj⟩, by simp, fun z hz => by simp at hz, fun n c e => by cases e; rfl⟩
  · have e : Value.slice a0 len cap = .slice (some a) len' cap' := by simpa [Value.cells] using hcs
    cases e
    have hz' : zs.length = cap := by simpa using hz
    have hlen : (zs.take len).length = len := by rw [List.length_take]; omega
    refine ⟨zs.take len, ⟨some a, cap, by rw [hlen], fun j hj => ⟨a, rfl, ?_⟩⟩, by omega, fun z hz => bounds_i64 (hwf z (List.mem_of_mem_take hz)), fun n c e => by cases e⟩
    have hj' : j < zs.length := by omega
    have hc := hcell j hj'
    have hg : zs.getD j 0 = (zs.take len)[j] := by simp [List.getD, hj']
    rw [hg] at hc
    exact ⟨block_of_cell hc, hc⟩
set_option maxRecDepth 100000 in
theorem intsAt.below {w w' : World} {v : Value} {Z : List Int} {B : Nat} (h : intsAt w v Z) (hb : Below B w w') (hB : w.heap.size ≤ B) : intsAt w' v Z := by
  obtain ⟨a, cap, rfl, hc⟩ := h
  refine ⟨a, cap, rfl, fun j hj => ?_⟩
  obtain ⟨ad, rfl, hlt, hc'⟩ := hc j hj
  exact ⟨ad, rfl, Nat.lt_of_lt_of_le hlt hb.size, (hb.cell (by rw [add_block]; omega)).trans hc'⟩
set_option maxRecDepth 100000 in
theorem intsAt.drew {w : World} {v : Value} {Z : List Int} (h : intsAt w v Z) (n : Nat) : intsAt (w.drewN n) v Z := h
def icells (Z : List Int) : List Value := Z.map fun z => .int .i64 z
set_option maxRecDepth 100000 in
theorem icells_len (Z : List Int) : (icells Z).length = Z.length := by simp [icells]
set_option maxRecDepth 100000 in
theorem icells_one (Z : List Int) : ∀ u ∈ icells Z, u.oneCell' = true := by
  intro u hu
  simp only [icells, List.mem_map] at hu
  obtain ⟨b, _, rfl⟩ := hu
  rfl
set_option maxRecDepth 100000 in
theorem icells_append (a b : List Int) : icells (a ++ b) = icells a ++ icells b := by simp [icells]
/-- The slice value v owns the numbers Z. -/
def ownI (w : World) (base : Nat) (v : Value) (Z : List Int) : Prop := w.ownsRow base 3 1 v Z.length (icells Z)
set_option maxRecDepth 100000 in
theorem ownI.lt {w : World} {base : Nat} {v : Value} {Z : List Int} (h : ownI w base v Z) : ∀ k, v.ownBlock = some k → base ≤ k ∧ k < w.heap.size := World.ownsRow.lt h
set_option maxRecDepth 100000 in
theorem ownI.kept {w w' : World} {base : Nat} {v : Value} {Z : List Int} (h : ownI w base v Z) (hk : ∀ g, v.ownBlock = some g → w'.heap[g]? = w.heap[g]?) : ownI w' base v Z := by
  refine ⟨h.1, ?_⟩
  rcases h.2 with hn | ⟨g, cap, cur, rfl, hb, hgg, rest⟩
  · exact .inl hn
  · exact .inr ⟨g, cap, cur, rfl, hb, by rw [hk g rfl]; exact hgg, rest⟩
set_option maxRecDepth 100000 in
theorem ownI.reads {w : World} {base : Nat} {v : Value} {Z : List Int} (h : ownI w base v Z) : intsAt w v Z := by
  rcases h.2 with ⟨rfl, h0⟩ | ⟨g, cap, cur, rfl, hb, hg, h1, h2, h3, h4⟩
  · refine ⟨none, 0, by rw [h0], fun j hj => by omega⟩
  · refine ⟨_, cap, rfl, fun j hj => ⟨_, rfl, (Array.getElem?_eq_some_iff.1 hg).1, ?_⟩⟩
    rw [add_zero_off, cell_of_row w g j cur 3 (0, 0) hg]
    have hx : (icells Z)[j]? = some (.int .i64 Z[j]) := by simp [icells, List.getElem?_eq_getElem hj]
    rw [← hx, ← h4, Nat.mul_one, List.getElem?_take_of_lt hj]
    simp
set_option maxRecDepth 100000 in
theorem ownI.form {w : World} {base : Nat} {v : Value} {Z : List Int} (h : ownI w base v Z) : ∃ a cap, v = .slice a Z.length cap := by
  rcases h.2 with ⟨rfl, h0⟩ | ⟨g, cap, cur, rfl, _⟩
  · exact ⟨none, 0, by rw [h0]⟩
  · exact ⟨_, cap, rfl⟩
/-- Block g is a row of the numbers Z that may be written. -/
def rowI (w : World) (g : Nat) (Z : List Int) : Prop := ∃ cs, w.heap[g]? = some (.cells cs 3 (0, 0)) ∧ Z.length ≤ cs.size ∧ ∀ j (h : j < Z.length), cs[j]? = some (.int .i64 Z[j])
set_option maxRecDepth 100000 in
theorem rowI.cells {w : World} {g : Nat} {Z : List Int} (h : rowI w g Z) {j : Nat} (hj : j < Z.length) : w.cell? ⟨g, j, none⟩ = some (.int .i64 Z[j]) ∧ w.frozen? ⟨g, j, none⟩ = false := by
  obtain ⟨cs, hg, _, h1⟩ := h
  exact ⟨by rw [cell_of_row w g j cs 3 (0, 0) hg, h1 j hj], Lib.frozen_of_heap hg j⟩
set_option maxRecDepth 100000 in
theorem rowI.store {w : World} {g : Nat} {Z : List Int} (h : rowI w g Z) (i : Nat) (z : Int) : rowI (w.setCell ⟨g, i, none⟩ (.int .i64 z)) g (Z.set i z) := by
  obtain ⟨cs, hg, h1, h2⟩ := h
  refine ⟨_, heap_setCell_at hg _, by simpa using h1, fun j hj => ?_⟩
  have hj' : j < Z.length := by simpa using hj
  rw [Array.getElem?_setIfInBounds, List.getElem_set]
  by_cases e : i = j
  · subst e; rw [if_pos rfl, if_pos rfl, if_pos (by omega)]
  · rw [if_neg e, if_neg e, h2 j hj']
set_option maxRecDepth 100000 in
theorem rowI.kept {w w' : World} {g : Nat} {Z : List Int} (h : rowI w g Z) (hk : w'.heap[g]? = w.heap[g]?) : rowI w' g Z := by
  obtain ⟨cs, hg, h1⟩ := h
  exact ⟨cs, hk.trans hg, h1⟩
set_option maxRecDepth 100000 in
theorem rowI.lt {w : World} {g : Nat} {Z : List Int} (h : rowI w g Z) : g < w.heap.size := by
  obtain ⟨cs, hg, _⟩ := h
  exact (Array.getElem?_eq_some_iff.1 hg).1
set_option maxRecDepth 100000 in
theorem rowI.reads {w : World} {g : Nat} {Z : List Int} (h : rowI w g Z) (cap : Nat) : intsAt w (.slice (some ⟨g, 0, none⟩) Z.length cap) Z :=
  ⟨_, cap, rfl, fun j hj => ⟨_, rfl, h.lt, by rw [add_zero_off]; exact (h.cells hj).1⟩⟩
set_option maxRecDepth 100000 in
theorem ownI.row {w : World} {b g n cap : Nat} {Z : List Int} (h : ownI w b (.slice (some ⟨g, 0, none⟩) n cap) Z) : rowI w g Z := by
  rcases h.2 with ⟨h0, _⟩ | ⟨g', cap', cur, hv, hb, hg, h1, h2, h3, h4⟩
  · cases h0
  · cases hv
    refine ⟨cur, hg, by omega, fun j hj => ?_⟩
    have hx : (icells Z)[j]? = some (.int .i64 Z[j]) := by simp [icells, List.getElem?_eq_getElem hj]
    rw [← hx, ← h4, Nat.mul_one, List.getElem?_take_of_lt hj]
    simp
set_option maxRecDepth 100000 in
/-- A fresh row of zeros. -/
theorem ownI_zeros {w : World} {b n : Nat} {v : Value} (h : w.ownsRow b 3 1 v n (madeCells (Value.int .i64 0).cells (n * 1)).toList) : ownI w b v (List.replicate n 0) := by
  unfold ownI
  have e : (madeCells (Value.int .i64 0).cells (n * 1)).toList = icells (List.replicate n 0) := by
    refine List.ext_getElem (by simp [madeCells, icells]) fun j h1 h2 => ?_
    simp [madeCells, Value.cells, icells, Nat.mod_one]
  rw [← e, List.length_replicate]; exact h
set_option maxRecDepth 100000 in
theorem own_none (w : World) : ownI (w.alloc (.cells #[] 3)) w.heap.size (.slice (some ⟨w.heap.size, 0, none⟩) 0 0) [] :=
  ⟨rfl, .inr ⟨w.heap.size, 0, #[], rfl, Nat.le_refl _, heap_alloc_new w _, Nat.le_refl _, Nat.zero_le _, rfl, rfl⟩⟩
set_option maxRecDepth 100000 in
theorem ownI.app {w2 : World} {b : Nat} {r : Value} {A B : List Int} {n : Nat} (h : w2.ownsRow b 3 1 r (A.length + n) (icells A ++ icells B)) (hn : n = B.length) : ownI w2 b r (A ++ B) := by
  unfold ownI; rw [List.length_append, icells_append, ← hn]; exact h
set_option maxRecDepth 100000 in
theorem run_append_ints {w : World} {base : Nat} {v x : Value} {A B : List Int} (ty : TypeId) (hA : ownI w base v A) (hB : intsAt w x B) (hnil : nilNone x) (hl : A.length + B.length ≤ 1048576) (hb : base ≤ w.heap.size) :
    ∃ r w', (Builtin.append_ #[31, 31] ty #[v, x]).run Try.prog w = .ok r w' ∧ ownI w' base r (A ++ B) ∧ w.grownBy w' v.ownBlock := by
  obtain ⟨j0, hj, hy0, hy1, hy2⟩ := info_parts Try.info3
  obtain ⟨a, c, rfl, hc⟩ := hB
  cases a with
  | none =>
    obtain rfl := hnil _ _ rfl
    have hB0 : B = [] := by
      cases B with
      | nil => rfl
      | cons b r => obtain ⟨ad, e, _⟩ := hc 0 (by simp); cases e
    subst hB0
    exact ⟨v, w, run_append_owned_none w base 31 ty 3 j0 1 Try.underlying31 hj v _ _ hA, by simpa using hA, ⟨rfl, rfl, rfl, Nat.le_refl _, fun _ _ _ => rfl⟩⟩
  | some ad =>
    have hsrc : ∀ j u, (icells B)[j]? = some u → w.cell? (ad.add j) = some u := by
      intro j u hu
      have hj : j < B.length := by have := (List.getElem?_eq_some_iff.1 hu).1; simpa [icells] using this
      obtain ⟨ad', e, _, hcj⟩ := hc j hj
      cases e
      rw [hcj, ← hu]
      simp [icells, List.getElem?_eq_getElem hj]
    obtain ⟨r, w', hr, h2, h3, _, _⟩ := run_append_own_at (P := Try.prog) w base 31 ty 3 j0 (.int .i64 0) 1 8 Try.underlying31 hj hy0 hy1 hy2 rfl (by decide) v A.length (icells A) hA ad B.length c (icells B) (by simp [icells]) hsrc (icells_one B) (by unfold maxLen; omega) (by omega) hb
    exact ⟨r, w', hr, ownI.app h2 rfl, h3⟩
set_option maxRecDepth 100000 in
theorem wpList_append_ints {w : World} {ops : Array Oper} {rest : List Oper} {o : Oper} {a : Act} {Q : Exit → Act → World → Prop} (hgd : o.guard = none) (s x : Operand)
    (ho : o.op = .call { callee := .builtin .append, args := #[s, x], argTypes := #[31, 31] }) (base : Nat) (v y : Value) (A B : List Int) (hs : a.eval s = v) (hx : a.eval x = y)
    (hA : ownI w base v A) (hB : intsAt w y B) (hnil : nilNone y) (hl : A.length + B.length ≤ 1048576) (hb : base ≤ w.heap.size)
    (h : ∀ r w', ownI w' base r (A ++ B) → w.grownBy w' v.ownBlock → wpList Try.prog ops Q rest (a.put o.dst r) w') : wpList Try.prog ops Q (o :: rest) a w := by
  refine wpList_plain hgd fun K hK => ?_
  obtain ⟨r, w', hr, h2, h3⟩ := run_append_ints o.type hA hB hnil hl hb
  unfold Oper.wp execOp
  simp only [ho, resolve, invoke, builtin, Sem.run_bind, Sem.run_pure, Result.andThen_ok, List.map_toArray, List.map_cons, List.map_nil, hs, hx, hr]
  exact hK _ _ (h r w' h2 h3)
set_option maxRecDepth 100000 in
/-- An owned row, written at one place. -/
theorem ownI.store {w : World} {b g n cap : Nat} {Z : List Int} (h : ownI w b (.slice (some ⟨g, 0, none⟩) n cap) Z) (i : Nat) (z : Int) : ownI (w.setCell ⟨g, i, none⟩ (.int .i64 z)) b (.slice (some ⟨g, 0, none⟩) n cap) (Z.set i z) := by
  rcases h.2 with ⟨h0, _⟩ | ⟨g', cap', cur, hv, hb, hg, h1, h2, h3, h4⟩
  · cases h0
  · cases hv
    refine ⟨by simp [icells], .inr ⟨g, cap, cur.setIfInBounds i (.int .i64 z), by simp, hb, heap_setCell_at hg _, by simpa using h1, by simpa using h2, by simpa using h3, ?_⟩⟩
    simp only [List.length_set, Nat.mul_one] at h4 ⊢
    rw [Array.toList_setIfInBounds, List.take_set, h4]
    simp [icells, List.map_set]
set_option maxRecDepth 100000 in
theorem own_some {w : World} {b n cap : Nat} {a : Option Addr} {M : List Int} (h : ownI w b (.slice a n cap) M) (hM : 0 < M.length) : ∃ g, a = some ⟨g, 0, none⟩ ∧ b ≤ g := by
  rcases h.2 with ⟨h0, h1⟩ | ⟨g', cap', cur, hv, hb, _⟩
  · omega
  · cases hv; exact ⟨g', rfl, hb⟩
end Go.Proofs.Ytbacbgpemaldbaa
