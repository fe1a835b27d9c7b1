/- Rows of words with counts, read, owned or made. -/
import Derived.Test.YtbacbgpemaldbaaMerge
import Derived.Test.YtbacbgpemaldbaaArgs
import Derived.Deep.SlicePairs
namespace Go.Proofs.Ytbacbgpemaldbaa
open Go.ChangeShapes Go.WideShapes Go.RowKit

set_option maxRecDepth 100000 in
theorem Try.cells42 : Try.prog.cellsOf 42 = 2 := by kernel_rfl
set_option maxRecDepth 100000 in
theorem Try.info42 : (Try.prog.info? 42).map (fun i => (i.zero, i.size, i.bytes)) = some (some (.agg #[.string ⟨#[]⟩, .int .i64 0]), 2, 24) := by kernel_rfl
def wcells (L : Bag) : List Value := L.flatMap fun p => [.string p.1, .int .i64 p.2]
set_option maxRecDepth 100000 in
theorem wcells_len (L : Bag) : (wcells L).length = L.length * 2 := by
  induction L with
  | nil => rfl
  | cons q r ih => unfold wcells at ih ⊢; rw [List.flatMap_cons, List.length_append, ih]; simp; omega
set_option maxRecDepth 100000 in
theorem wcells_append (a b : Bag) : wcells (a ++ b) = wcells a ++ wcells b := by simp [wcells]
set_option maxRecDepth 100000 in
theorem wcells_one (L : Bag) : ∀ u ∈ wcells L, u.oneCell' = true := by
  intro u hu
  obtain ⟨p, _, hp⟩ := List.mem_flatMap.1 hu
  simp only [List.mem_cons, List.not_mem_nil, or_false] at hp
  rcases hp with rfl | rfl <;> rfl
set_option maxRecDepth 100000 in
theorem wcells_at : ∀ (L : Bag) {j : Nat} (hj : j < L.length), (wcells L)[j * 2]? = some (.string L[j].1) ∧ (wcells L)[j * 2 + 1]? = some (.int .i64 L[j].2)
  | q :: r, 0, _ => ⟨rfl, rfl⟩
  | q :: r, j + 1, hj => by
    have ih := wcells_at r (j := j) (by simpa using hj)
    have e : wcells (q :: r) = .string q.1 :: .int .i64 q.2 :: wcells r := rfl
    have e1 : (j + 1) * 2 = j * 2 + 1 + 1 := by omega
    rw [e, e1]
    simp only [List.getElem?_cons_succ, List.getElem_cons_succ]
    exact ih
/-- The slice value v reads as the words L. -/
def wordsAt (w : World) (v : Value) (L : Bag) : Prop :=
  ∃ a cap, v = .slice a L.length cap ∧ ∀ j (h : j < L.length), ∃ ad, a = some ad ∧ ad.block < w.heap.size ∧ w.cell? (ad.add (j * 2)) = some (.string L[j].1) ∧ w.cell? ⟨(ad.add (j * 2)).block, (ad.add (j * 2)).off + 1, none⟩ = some (.int .i64 L[j].2)
/-- Words of an argument. -/
def Fits (L : Bag) : Prop := ∀ p ∈ L, p.1.size ≤ 9223372036854775807 ∧ -9223372036854775808 ≤ p.2 ∧ p.2 ≤ 9223372036854775807
set_option maxRecDepth 100000 in
theorem Fits.at {L : Bag} (h : Fits L) {j : Nat} (hj : j < L.length) : L[j].1.size ≤ 9223372036854775807 ∧ -9223372036854775808 ≤ L[j].2 ∧ L[j].2 ≤ 9223372036854775807 := h _ (List.getElem_mem hj)
set_option maxRecDepth 100000 in
theorem Sound.fits {L : Bag} (h : Sound L) : Fits L := fun p hp => by have := h.2 p hp; exact ⟨this.2.2, by omega, this.2.1⟩
set_option maxRecDepth 100000 in
theorem wordsAt.below {w w' : World} {v : Value} {L : Bag} {B : Nat} (h : wordsAt w v L) (hb : Below B w w') (hB : w.heap.size ≤ B) : wordsAt w' v L := by
  obtain ⟨a, cap, rfl, hc⟩ := h
  refine ⟨a, cap, rfl, fun j hj => ?_⟩
  obtain ⟨ad, rfl, hlt, h1, h2⟩ := hc j hj
  exact ⟨ad, rfl, Nat.lt_of_lt_of_le hlt hb.size, (hb.cell (by rw [add_block]; omega)).trans h1, (hb.cell (by show (ad.add (j * 2)).block < B; rw [add_block]; omega)).trans h2⟩
set_option maxRecDepth 100000 in
theorem wordsAt.drew {w : World} {v : Value} {L : Bag} (h : wordsAt w v L) (n : Nat) : wordsAt (w.drewN n) v L := h
set_option maxRecDepth 100000 in
theorem wordsAt.nil (w : World) : wordsAt w (.slice none 0 0) [] := ⟨none, 0, rfl, fun j hj => by simp at hj⟩
set_option maxRecDepth 100000 in
theorem open_words {H : Type} {enc : TypeId × Value → H} {W : World} {base : Nat} {v : Value} {d : DataW H} {p : List MemPlace} (ov : Value.okWide Try.prog W .any base 22 v)
    (h : DataW.Trod enc Try.prog W 0 (fun _ => true) true 22 v d p) : ∃ L, wordsAt W v L ∧ L.length ≤ maxLen ∧ Fits L ∧ nilNone v ∧ (∀ a n c, v = .slice a n c → n ≤ c) := by
  obtain ⟨a0, len, cap, rfl⟩ := okWide_slice Try.underlying22 ov
  obtain ⟨fuel, hf⟩ := h
  rcases Deep.open_slice_pairs Try.underlying22 Try.underlying42 Try.cells42 rfl rfl Try.cells9 Try.cells3 hf with ⟨hcs, _⟩ | ⟨a, len', cap', m, n, V0, V1, D0, D1, P0, P1, hcs, _, hl, hm, hmm, _, hall⟩
  · have e : Value.slice a0 len cap = .slice none 0 0 := by simpa [Value.cells] using hcs
    cases e
    exact ⟨[], wordsAt.nil W, by simp, fun z hz => by simp at hz, fun n c e => by cases e; rfl, fun a n c e => by cases e; exact Nat.le_refl _⟩
  · have e : Value.slice a0 len cap = .slice (some a) len' cap' := by simpa [Value.cells] using hcs
    cases e
    have hm' : m = cap := by simpa using hmm
    subst hm'
    have each : ∀ i, i < len → ∃ q : ByteArray × Int, V0 i = .string q.1 ∧ V1 i = .int .i64 q.2 ∧ q.1.size ≤ 9223372036854775807 ∧ -9223372036854775808 ≤ q.2 ∧ q.2 ≤ 9223372036854775807 := by
      intro i hi
      obtain ⟨_, _, t0, t1⟩ := hall i (by omega)
      obtain ⟨s, e0, _, hs⟩ := DataW.trod_string Try.underlying9 t0
      obtain ⟨z, e1, _, hz⟩ := DataW.trod_int Try.underlying3 t1
      simp only [List.cons.injEq, and_true] at e0 e1
      exact ⟨(s, z), e0, e1, by unfold maxLen at hs; exact hs, bounds_i64 hz⟩
    obtain ⟨q, hq⟩ := Deep.choose_lt each
    have hlen : ((List.range len).map q).length = len := by simp
    refine ⟨(List.range len).map q, ⟨some a, m, by rw [hlen], fun j hj => ⟨a, rfl, ?_⟩⟩, by rw [hlen]; omega, ?_, fun n c e => (by cases e), fun a n c e => (by cases e; exact hl)⟩
    · have hj' : j < len := by simpa using hj
      obtain ⟨c0, c1, _, _⟩ := hall j (by omega)
      obtain ⟨q0, q1, _⟩ := hq j hj'
      rw [q0] at c0
      rw [q1] at c1
      have hg : ((List.range len).map q)[j] = q j := by simp
      rw [hg, ← two_cell]
      exact ⟨block_of_cell c0, c0, c1⟩
    · intro p hp
      obtain ⟨i, hi, rfl⟩ := List.mem_map.1 hp
      exact (hq i (by simpa using hi)).2.2
/-- The slice value v owns the words L. -/
def ownW (w : World) (base : Nat) (v : Value) (L : Bag) : Prop := w.ownsRow base 42 2 v L.length (wcells L)
set_option maxRecDepth 100000 in
theorem ownW.lt {w : World} {base : Nat} {v : Value} {L : Bag} (h : ownW w base v L) : ∀ k, v.ownBlock = some k → base ≤ k ∧ k < w.heap.size := World.ownsRow.lt h
set_option maxRecDepth 100000 in
theorem ownW.kept {w w' : World} {base : Nat} {v : Value} {L : Bag} (h : ownW w base v L) (hk : ∀ g, v.ownBlock = some g → w'.heap[g]? = w.heap[g]?) : ownW w' base v L := by
  refine ⟨h.1, ?_⟩
  rcases h.2 with hn | ⟨g, cap, cur, rfl, hb, hgg, rest⟩
  · exact .inl hn
  · exact .inr ⟨g, cap, cur, rfl, hb, by rw [hk g rfl]; exact hgg, rest⟩
set_option maxRecDepth 100000 in
theorem ownW.below {w w' : World} {base : Nat} {v : Value} {L : Bag} (h : ownW w base v L) (hb : Below w.heap.size w w') : ownW w' base v L := h.kept fun g hg => hb.block g (h.lt g hg).2
set_option maxRecDepth 100000 in
theorem ownW.block {w : World} {base : Nat} {v : Value} {L : Bag} (h : ownW w base v L) : ∀ g, v.ownBlock = some g → ∃ cs, w.heap[g]? = some (.cells cs 42 (0, 0)) := by
  intro g hg
  rcases h.2 with ⟨rfl, _⟩ | ⟨g', cap, cur, rfl, _, hgg, _⟩
  · simp [Value.ownBlock] at hg
  · simp [Value.ownBlock] at hg; subst hg; exact ⟨cur, hgg⟩
set_option maxRecDepth 100000 in
theorem ownW.mono {w : World} {b b' : Nat} {v : Value} {L : Bag} (h : ownW w b v L) (hb : b' ≤ b) : ownW w b' v L := by
  refine ⟨h.1, ?_⟩
  rcases h.2 with hn | ⟨g, cap, cur, rfl, hb2, rest⟩
  · exact .inl hn
  · exact .inr ⟨g, cap, cur, rfl, Nat.le_trans hb hb2, rest⟩
set_option maxRecDepth 100000 in
theorem ownW.nil (w : World) (b : Nat) : ownW w b (.slice none 0 0) [] := ⟨rfl, .inl ⟨rfl, rfl⟩⟩
set_option maxRecDepth 100000 in
theorem ownW.reads {w : World} {base : Nat} {v : Value} {L : Bag} (h : ownW w base v L) : wordsAt w v L := by
  rcases h.2 with ⟨rfl, h0⟩ | ⟨g, cap, cur, rfl, hb, hg, h1, h2, h3, h4⟩
  · refine ⟨none, 0, by rw [h0], fun j hj => by omega⟩
  · have hc : ∀ i u, (wcells L)[i]? = some u → w.cell? ((⟨g, 0, none⟩ : Addr).add i) = some u := by
      intro i u hu
      have hi : i < L.length * 2 := by have := (List.getElem?_eq_some_iff.1 hu).1; rwa [wcells_len] at this
      rw [add_zero_off, cell_of_row w g i cur 42 (0, 0) hg, ← hu, ← h4, List.getElem?_take_of_lt hi]
      simp
    refine ⟨_, cap, rfl, fun j hj => ⟨_, rfl, (Array.getElem?_eq_some_iff.1 hg).1, hc _ _ (wcells_at L hj).1, by rw [← two_cell]; exact hc _ _ (wcells_at L hj).2⟩⟩
set_option maxRecDepth 100000 in
theorem ownW.form {w : World} {base : Nat} {v : Value} {L : Bag} (h : ownW w base v L) : ∃ a cap, v = .slice a L.length cap ∧ L.length ≤ cap := by
  rcases h.2 with ⟨rfl, h0⟩ | ⟨g, cap, cur, rfl, _, _, h1, _⟩
  · exact ⟨none, 0, by rw [h0], by omega⟩
  · exact ⟨_, cap, rfl, h1⟩
set_option maxRecDepth 100000 in
theorem ownW.nilNone {w : World} {base : Nat} {v : Value} {L : Bag} (h : ownW w base v L) : nilNone v := by
  rcases h.2 with ⟨rfl, h0⟩ | ⟨g, cap, cur, rfl, _⟩
  · intro n c e; cases e; rfl
  · intro n c e; cases e
set_option maxRecDepth 100000 in
theorem ownW.app {w2 : World} {b : Nat} {r : Value} {A B : Bag} {n : Nat} (h : w2.ownsRow b 42 2 r (A.length + n) (wcells A ++ wcells B)) (hn : n = B.length) : ownW w2 b r (A ++ B) := by
  unfold ownW; rw [List.length_append, wcells_append, ← hn]; exact h
set_option maxRecDepth 100000 in
theorem run_append_words {w : World} {base : Nat} {v x : Value} {A B : Bag} (ty : TypeId) (hA : ownW w base v A) (hB : wordsAt w x B) (hnil : nilNone x) (hl : A.length + B.length ≤ 1048576) (hb : base ≤ w.heap.size) :
    ∃ r w', (Builtin.append_ #[22, 22] ty #[v, x]).run Try.prog w = .ok r w' ∧ ownW w' base r (A ++ B) ∧ w.grownBy w' v.ownBlock ∧ (r.ownBlock = v.ownBlock ∨ r.ownBlock = some w.heap.size) := by
  obtain ⟨j0, hj, hy0, hy1, hy2⟩ := info_parts Try.info42
  obtain ⟨a, c, rfl, hc⟩ := hB
  cases a with
  | none =>
    obtain rfl := hnil _ _ rfl
    have hB0 : B = [] := by
      cases B with
      | nil => rfl
      | cons b r => obtain ⟨ad, e, _⟩ := hc 0 (by simp); cases e
    subst hB0
    exact ⟨v, w, run_append_owned_none w base 22 ty 42 j0 2 Try.underlying22 hj v _ _ hA, by simpa using hA, ⟨rfl, rfl, rfl, Nat.le_refl _, fun _ _ _ => rfl⟩, .inl rfl⟩
  | some ad =>
    have hsrc : ∀ j u, (wcells B)[j]? = some u → w.cell? (ad.add j) = some u := by
      intro i u hu
      have hi : i < B.length * 2 := by have := (List.getElem?_eq_some_iff.1 hu).1; rwa [wcells_len] at this
      obtain ⟨ad', e, _, h1, h2⟩ := hc (i / 2) (by omega)
      cases e
      rw [← two_cell] at h2
      obtain ⟨k1, k2⟩ := wcells_at B (j := i / 2) (by omega)
      rcases Nat.mod_two_eq_zero_or_one i with hm | hm
      · have ei : i / 2 * 2 = i := by omega
        rw [ei] at h1 k1
        rw [hu] at k1; cases k1; exact h1
      · have ei : i / 2 * 2 + 1 = i := by omega
        rw [ei] at h2 k2
        rw [hu] at k2; cases k2; exact h2
    obtain ⟨r, w', hr, h2, h3, _, h5⟩ := run_append_own_at (P := Try.prog) w base 22 ty 42 j0 (.agg #[.string ⟨#[]⟩, .int .i64 0]) 2 24 Try.underlying22 hj hy0 hy1 hy2 rfl (by decide) v A.length (wcells A) hA ad B.length c (wcells B) (wcells_len B) hsrc (wcells_one B) (by unfold maxLen; omega) (by omega) hb
    exact ⟨r, w', hr, ownW.app h2 rfl, h3, h5⟩
set_option maxRecDepth 100000 in
theorem wpList_append_words {w : World} {ops : Array Oper} {rest : List Oper} {o : Oper} {a : Act} {Q : Exit → Act → World → Prop} (hgd : o.guard = none) (s x : Operand)
    (ho : o.op = .call { callee := .builtin .append, args := #[s, x], argTypes := #[22, 22] }) (base : Nat) (v y : Value) (A B : Bag) (hs : a.eval s = v) (hx : a.eval x = y)
    (hA : ownW w base v A) (hB : wordsAt w y B) (hnil : nilNone y) (hl : A.length + B.length ≤ 1048576) (hb : base ≤ w.heap.size)
    (h : ∀ r w', ownW w' base r (A ++ B) → w.grownBy w' v.ownBlock → (r.ownBlock = v.ownBlock ∨ r.ownBlock = some w.heap.size) → wpList Try.prog ops Q rest (a.put o.dst r) w') : wpList Try.prog ops Q (o :: rest) a w := by
  refine wpList_plain hgd fun K hK => ?_
  obtain ⟨r, w', hr, h2, h3, h4⟩ := run_append_words o.type hA hB hnil hl hb
  unfold Oper.wp execOp
  simp only [ho, resolve, invoke, builtin, Sem.run_bind, Sem.run_pure, Result.andThen_ok, List.map_toArray, List.map_cons, List.map_nil, hs, hx, hr]
  exact hK _ _ (h r w' h2 h3 h4)
set_option maxRecDepth 100000 in
/-- A row of one word, laid. -/
theorem one_word (w : World) (s : ByteArray) (c : Int) : wordsAt (w.alloc (.cells #[.string s, .int .i64 c] 42)) (.slice (some ⟨w.heap.size, 0, none⟩) 1 1) [(s, c)] := by
  refine ⟨_, 1, rfl, fun j hj => ⟨_, rfl, by simp, ?_⟩⟩
  have hj0 : j = 0 := by simpa using hj
  subst hj0
  rw [← two_cell, add_zero_off, add_zero_off, cell_of_row _ _ _ _ 42 (0, 0) (heap_alloc_new w _), cell_of_row _ _ _ _ 42 (0, 0) (heap_alloc_new w _)]
  exact ⟨rfl, rfl⟩
set_option maxRecDepth 100000 in
theorem ownW.alloc {w : World} {b : Nat} {v : Value} {A : Bag} (h : ownW w b v A) (o : Obj) : ownW (w.alloc o) b v A := h.kept fun g hg => Below.heap_alloc _ _ _ (h.lt g hg).2
set_option maxRecDepth 100000 in
theorem ownW.drewN {w : World} {b : Nat} {v : Value} {L : Bag} (h : ownW w b v L) (n : Nat) : ownW (w.drewN n) b v L := h
set_option maxRecDepth 100000 in
theorem ownW.drew {w : World} {b : Nat} {v : Value} {L : Bag} (h : ownW w b v L) : ownW w.drew b v L := h
/-- Block g is a row of n words at least that may be written. -/
def rowW (w : World) (g n : Nat) : Prop := ∃ cs, w.heap[g]? = some (.cells cs 42 (0, 0)) ∧ n * 2 ≤ cs.size
set_option maxRecDepth 100000 in
theorem rowW.cells {w : World} {g n j : Nat} (h : rowW w g n) (hj : j < n) : (∃ u, w.cell? ⟨g, j * 2, none⟩ = some u) ∧ w.frozen? ⟨g, j * 2, none⟩ = false := by
  obtain ⟨cs, hg, h1⟩ := h
  refine ⟨⟨cs[j * 2], ?_⟩, Lib.frozen_of_heap hg _⟩
  rw [cell_of_row w g _ cs 42 (0, 0) hg, Array.getElem?_eq_getElem (by omega)]
set_option maxRecDepth 100000 in
theorem rowW.store {w : World} {g n : Nat} (h : rowW w g n) (j : Nat) (u : Value) : rowW (w.setCell ⟨g, j, none⟩ u) g n := by
  obtain ⟨cs, hg, h1⟩ := h
  exact ⟨_, heap_setCell_at hg u, by simpa using h1⟩
set_option maxRecDepth 100000 in
theorem rowW_of_own {w : World} {b g : Nat} {v : Value} {L : Bag} (h : ownW w b v L) (hg : v.ownBlock = some g) : rowW w g L.length := by
  rcases h.2 with ⟨rfl, _⟩ | ⟨g', cap, cur, rfl, _, hgg, h1, _, h3, _⟩
  · simp [Value.ownBlock] at hg
  · simp [Value.ownBlock] at hg; subst hg; exact ⟨cur, hgg, by omega⟩
set_option maxRecDepth 100000 in
theorem ownW_some {w : World} {b n cap : Nat} {a : Option Addr} {M : Bag} (h : ownW w b (.slice a n cap) M) (hM : 0 < M.length) : ∃ g, a = some ⟨g, 0, none⟩ ∧ b ≤ g := by
  rcases h.2 with ⟨_, h1⟩ | ⟨g', cap', cur, hv, hb, _⟩
  · omega
  · cases hv; exact ⟨g', rfl, hb⟩
set_option maxRecDepth 100000 in
theorem ownW_none (w : World) : ownW (w.alloc (.cells #[] 42)) w.heap.size (.slice (some ⟨w.heap.size, 0, none⟩) 0 0) [] :=
  ⟨rfl, .inr ⟨w.heap.size, 0, #[], rfl, Nat.le_refl _, heap_alloc_new w _, Nat.le_refl _, Nat.zero_le _, rfl, rfl⟩⟩
set_option maxRecDepth 100000 in
theorem wcells_set (s : ByteArray) (c : Int) : ∀ (M : Bag) (p : Nat), wcells (M.set p (s, c)) = ((wcells M).set (p * 2) (.string s)).set (p * 2 + 1) (.int .i64 c)
  | [], p => by simp [wcells]
  | q :: r, 0 => rfl
  | q :: r, p + 1 => by
    have ih := wcells_set s c r p
    have e1 : (p + 1) * 2 = p * 2 + 1 + 1 := by omega
    have e2 : (p + 1) * 2 + 1 = p * 2 + 1 + 1 + 1 := by omega
    rw [List.set_cons_succ]
    show Value.string q.1 :: Value.int .i64 q.2 :: wcells (r.set p (s, c)) = _
    rw [ih, e2, e1]
    rfl
set_option maxRecDepth 100000 in
/-- An owned row, written at one word. -/
theorem ownW.store {w : World} {b g n cap : Nat} {M : Bag} (h : ownW w b (.slice (some ⟨g, 0, none⟩) n cap) M) (p : Nat) (s : ByteArray) (c : Int) :
    ownW ((w.setCell ⟨g, p * 2, none⟩ (.string s)).setCell ⟨g, p * 2 + 1, none⟩ (.int .i64 c)) b (.slice (some ⟨g, 0, none⟩) n cap) (M.set p (s, c)) := by
  rcases h.2 with ⟨h0, _⟩ | ⟨g', cap', cur, hv, hb, hg, h1, h2, h3, h4⟩
  · cases h0
  · cases hv
    refine ⟨by rw [wcells_len], .inr ⟨g, cap, (cur.setIfInBounds (p * 2) (.string s)).setIfInBounds (p * 2 + 1) (.int .i64 c), by simp, hb, heap_setCell_at (heap_setCell_at hg _) _, by simpa using h1, by simpa using h2, by simpa using h3, ?_⟩⟩
    rw [List.length_set, Array.toList_setIfInBounds, Array.toList_setIfInBounds, List.take_set, List.take_set, h4, wcells_set]
set_option maxRecDepth 100000 in
theorem rowW.cells2 {w : World} {g n j : Nat} (h : rowW w g n) (hj : j < n) : (∃ u, w.cell? ⟨g, j * 2 + 1, none⟩ = some u) ∧ w.frozen? ⟨g, j * 2 + 1, none⟩ = false := by
  obtain ⟨cs, hg, h1⟩ := h
  refine ⟨⟨cs[j * 2 + 1], ?_⟩, Lib.frozen_of_heap hg _⟩
  rw [cell_of_row w g _ cs 42 (0, 0) hg, Array.getElem?_eq_getElem (by omega)]
set_option maxRecDepth 100000 in
theorem words_head {w : World} {a : Option Addr} {n cap c : Nat} {M : Bag} (h : wordsAt w (.slice a n cap) M) (hc : c ≤ M.length) : wordsAt w (.slice a c cap) (M.take c) := by
  obtain ⟨a', cap', e, hcs⟩ := h
  cases e
  refine ⟨a, cap, by rw [List.length_take, Nat.min_eq_left hc], fun j hj => ?_⟩
  rw [List.length_take] at hj
  obtain ⟨ad, rfl, hb, h1, h2⟩ := hcs j (by omega)
  exact ⟨ad, rfl, hb, by rw [h1, List.getElem_take], by rw [h2, List.getElem_take]⟩
set_option maxRecDepth 100000 in
theorem words_tail {w : World} {a : Option Addr} {n cap c : Nat} {M : Bag} (h : wordsAt w (.slice a n cap) M) (hcap : n ≤ cap) : wordsAt w (.slice (if cap = c then a else a.map fun x => x.add (c * 2)) (n - c) (cap - c)) (M.drop c) := by
  obtain ⟨a', cap', e, hcs⟩ := h
  cases e
  refine ⟨_, cap - c, by rw [List.length_drop], fun j hj => ?_⟩
  rw [List.length_drop] at hj
  obtain ⟨ad, rfl, hb, h1, h2⟩ := hcs (c + j) (by omega)
  have e1 : (ad.add (c * 2)).add (j * 2) = ad.add ((c + j) * 2) := by rw [add_add_any, Nat.add_mul]
  refine ⟨ad.add (c * 2), by rw [if_neg (by omega)]; rfl, by rw [add_block]; exact hb, ?_, ?_⟩
  · rw [e1, h1]; simp
  · rw [e1, h2]; simp
set_option maxRecDepth 100000 in
theorem two_words (w : World) (s t : ByteArray) (c d : Int) : wordsAt (w.alloc (.cells #[.string s, .int .i64 c, .string t, .int .i64 d] 42)) (.slice (some ⟨w.heap.size, 0, none⟩) 2 2) [(s, c), (t, d)] := by
  refine ⟨_, 2, rfl, fun j hj => ⟨_, rfl, by simp, ?_⟩⟩
  rw [← two_cell, add_zero_off, add_zero_off, cell_of_row _ _ _ _ 42 (0, 0) (heap_alloc_new w _), cell_of_row _ _ _ _ 42 (0, 0) (heap_alloc_new w _)]
  match j, hj with
  | 0, _ => exact ⟨rfl, rfl⟩
  | 1, _ => exact ⟨rfl, rfl⟩
set_option maxRecDepth 100000 in
/-- One word more to an owned row. -/
theorem more_below {w wr w2 : World} {v : Value} {A : Bag} {o : Obj} (ho : ownW wr w.heap.size v A) (hb : Below w.heap.size w wr) (hg : (wr.alloc o).grownBy w2 v.ownBlock) : Below w.heap.size w w2 :=
  (hb.alloc hb.size _).grown hg (by rw [World.size_alloc]; have := hb.size; omega) fun g e => (ho.lt g e).1
set_option maxRecDepth 100000 in
theorem size_alloc_le {w wr : World} (hb : Below w.heap.size w wr) (o : Obj) : w.heap.size ≤ (wr.alloc o).heap.size := by rw [World.size_alloc]; have := hb.size; omega
set_option maxRecDepth 100000 in
theorem words_at {w wr : World} {L : Bag} {ad : Addr} {n cap : Nat} (h : wordsAt w (.slice (some ad) n cap) L) (hb : Below w.heap.size w wr) {k : Nat} (hk : k < L.length) :
    wr.cell? (ad.add (k * 2)) = some (.string L[k].1) ∧ wr.cell? ⟨(ad.add (k * 2)).block, (ad.add (k * 2)).off + 1, none⟩ = some (.int .i64 L[k].2) := by
  obtain ⟨a, cap', e, hc⟩ := h.below hb (Nat.le_refl _)
  cases e
  obtain ⟨ad', e, _, h1, h2⟩ := hc k hk
  cases e
  exact ⟨h1, h2⟩
set_option maxRecDepth 100000 in
theorem below_undrew {w w' : World} (h : Below w.drew.heap.size w.drew w') : Below w.heap.size w w' := ⟨h.os, h.tape, h.output, h.size, h.block⟩
set_option maxRecDepth 100000 in
/-- Two words laid apart. -/
theorem boxes {w wp : World} {b : Nat} {v : Value} {M : Bag} (ho : ownW wp b v M) (hb : Below w.heap.size w wp) (s1 s2 : ByteArray) (c1 c2 : Int) :
    ((wp.alloc (.cells #[.string s1, .int .i64 c1] 42)).alloc (.cells #[.string s2, .int .i64 c2] 42)).drew.cell? ⟨wp.heap.size, 0, none⟩ = some (.string s1) ∧
    ((wp.alloc (.cells #[.string s1, .int .i64 c1] 42)).alloc (.cells #[.string s2, .int .i64 c2] 42)).drew.cell? ⟨wp.heap.size, 1, none⟩ = some (.int .i64 c1) ∧
    ((wp.alloc (.cells #[.string s1, .int .i64 c1] 42)).alloc (.cells #[.string s2, .int .i64 c2] 42)).drew.cell? ⟨wp.heap.size + 1, 0, none⟩ = some (.string s2) ∧
    ((wp.alloc (.cells #[.string s1, .int .i64 c1] 42)).alloc (.cells #[.string s2, .int .i64 c2] 42)).drew.cell? ⟨wp.heap.size + 1, 1, none⟩ = some (.int .i64 c2) ∧
    ownW ((wp.alloc (.cells #[.string s1, .int .i64 c1] 42)).alloc (.cells #[.string s2, .int .i64 c2] 42)).drew b v M ∧
    Below w.heap.size w ((wp.alloc (.cells #[.string s1, .int .i64 c1] 42)).alloc (.cells #[.string s2, .int .i64 c2] 42)).drew := by
  have h1 : ((wp.alloc (.cells #[.string s1, .int .i64 c1] 42)).alloc (.cells #[.string s2, .int .i64 c2] 42)).drew.heap[wp.heap.size]? = some (.cells #[.string s1, .int .i64 c1] 42 (0, 0)) :=
    (Below.heap_alloc _ _ _ (by rw [World.size_alloc]; omega)).trans (heap_alloc_new wp _)
  have h2 : ((wp.alloc (.cells #[.string s1, .int .i64 c1] 42)).alloc (.cells #[.string s2, .int .i64 c2] 42)).drew.heap[wp.heap.size + 1]? = some (.cells #[.string s2, .int .i64 c2] 42 (0, 0)) := by
    have := heap_alloc_new (wp.alloc (.cells #[.string s1, .int .i64 c1] 42)) (.cells #[.string s2, .int .i64 c2] 42)
    rw [World.size_alloc] at this
    exact this
  refine ⟨?_, ?_, ?_, ?_, ((ho.alloc _).alloc _).drew, ((hb.alloc hb.size _).alloc (by rw [World.size_alloc]; have := hb.size; omega) _).drew⟩
  · rw [cell_of_row _ _ 0 _ 42 (0, 0) h1]; rfl
  · rw [cell_of_row _ _ 1 _ 42 (0, 0) h1]; rfl
  · rw [cell_of_row _ _ 0 _ 42 (0, 0) h2]; rfl
  · rw [cell_of_row _ _ 1 _ 42 (0, 0) h2]; rfl
set_option maxRecDepth 100000 in
/-- One word, laid as a row of the call's own. -/
theorem own_one (w : World) (s : ByteArray) (c : Int) : ownW (w.alloc (.cells #[.string s, .int .i64 c] 42)) w.heap.size (.slice (some ⟨w.heap.size, 0, none⟩) 1 1) [(s, c)] :=
  ⟨rfl, .inr ⟨w.heap.size, 1, #[.string s, .int .i64 c], rfl, Nat.le_refl _, heap_alloc_new w _, Nat.le_refl _, by unfold maxLen; omega, rfl, rfl⟩⟩
set_option maxRecDepth 100000 in
theorem fits_one {s : ByteArray} (h : s.size ≤ 9223372036854775807) : Fits [(s, 1)] := by
  intro p hp
  rw [List.mem_singleton] at hp
  subst hp
  exact ⟨h, by simp, by simp⟩
end Go.Proofs.Ytbacbgpemaldbaa
