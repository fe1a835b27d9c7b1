/- Rows of words with counts, read, owned or made. -/
import Derived.Test.YtikdhlpmoldijaaMerge
import Derived.Test.YtikdhlpmoldijaaArgs
import Derived.Deep.SlicePairs
namespace Go.Proofs.Ytikdhlpmoldijaa
open Go.ChangeShapes Go.WideShapes Go.RowKit

theorem Try.cells3 : Try.prog.cellsOf 3 = 1 := by kernel_rfl
theorem Try.cells30 : Try.prog.cellsOf 30 = 2 := by kernel_rfl
theorem Try.info30 : (Try.prog.info? 30).map (fun i => (i.zero, i.size, i.bytes)) = some (some (.agg #[.string ⟨#[]⟩, .int .i64 0]), 2, 24) := by kernel_rfl
def wcells (L : Bag) : List Value := L.flatMap fun p => [.string p.1, .int .i64 p.2]
theorem wcells_len (L : Bag) : (wcells L).length = L.length * 2 := by
  induction L with
  | nil => rfl
  | cons q r ih => unfold wcells at ih ⊢; rw [List.flatMap_cons, List.length_append, ih]; simp; omega
theorem wcells_append (a b : Bag) : wcells (a ++ b) = wcells a ++ wcells b := by simp [wcells]
theorem wcells_one (L : Bag) : ∀ u ∈ wcells L, u.oneCell' = true := by
  intro u hu
  obtain ⟨p, _, hp⟩ := List.mem_flatMap.1 hu
  simp only [List.mem_cons, List.not_mem_nil, or_false] at hp
  rcases hp with rfl | rfl <;> rfl
theorem wcells_at : ∀ (L : Bag) {j : Nat} (hj : j < L.length), (wcells L)[j * 2]? = some (.string L[j].1) ∧ (wcells L)[j * 2 + 1]? = some (.int .i64 L[j].2)
  | q :: r, 0, _ => ⟨rfl, rfl⟩
  | q :: r, j + 1, hj => by
    have ih := wcells_at r (j := j) (by simpa using hj)
    have e : wcells (q :: r) = .string q.1 :: .int .i64 q.2 :: wcells r := rfl
    have e1 : (j + 1) * 2 = j * 2 + 1 + 1 := by omega
    rw [e, e1]
    simp only [List.getElem?_cons_succ, List.getElem_cons_succ]
    exact ih
theorem two_cell (ad : Addr) (n : Nat) : ad.add (n + 1) = ⟨(ad.add n).block, (ad.add n).off + 1, none⟩ := by
  unfold Addr.add
  by_cases h : n = 0
  · subst h; simp
  · simp [h, Nat.add_assoc]
/-- The slice value v reads as the words L. -/
def wordsAt (w : World) (v : Value) (L : Bag) : Prop :=
  ∃ a cap, v = .slice a L.length cap ∧ ∀ j (h : j < L.length), ∃ ad, a = some ad ∧ ad.block < w.heap.size ∧ w.cell? (ad.add (j * 2)) = some (.string L[j].1) ∧ w.cell? ⟨(ad.add (j * 2)).block, (ad.add (j * 2)).off + 1, none⟩ = some (.int .i64 L[j].2)
/-- Words of an argument. -/
def Fits (L : Bag) : Prop := ∀ p ∈ L, p.1.size ≤ 9223372036854775807 ∧ -9223372036854775808 ≤ p.2 ∧ p.2 ≤ 9223372036854775807
theorem Fits.at {L : Bag} (h : Fits L) {j : Nat} (hj : j < L.length) : L[j].1.size ≤ 9223372036854775807 ∧ -9223372036854775808 ≤ L[j].2 ∧ L[j].2 ≤ 9223372036854775807 := h _ (List.getElem_mem hj)
theorem Sound.fits {L : Bag} (h : Sound L) : Fits L := fun p hp => by have := h.2 p hp; exact ⟨this.2.2, by omega, this.2.1⟩
/-- A nil row has no room. -/
def nilNone (v : Value) : Prop := ∀ n c, v = .slice none n c → c = 0
theorem add_block (ad : Addr) (j : Nat) : (ad.add j).block = ad.block := by unfold Addr.add; split <;> rfl
theorem wordsAt.below {w w' : World} {v : Value} {L : Bag} {B : Nat} (h : wordsAt w v L) (hb : Below B w w') (hB : w.heap.size ≤ B) : wordsAt w' v L := by
  obtain ⟨a, cap, rfl, hc⟩ := h
  refine ⟨a, cap, rfl, fun j hj => ?_⟩
  obtain ⟨ad, rfl, hlt, h1, h2⟩ := hc j hj
  exact ⟨ad, rfl, Nat.lt_of_lt_of_le hlt hb.size, (hb.cell (by rw [add_block]; omega)).trans h1, (hb.cell (by show (ad.add (j * 2)).block < B; rw [add_block]; omega)).trans h2⟩
theorem wordsAt.drew {w : World} {v : Value} {L : Bag} (h : wordsAt w v L) (n : Nat) : wordsAt (w.drewN n) v L := h
theorem wordsAt.nil (w : World) : wordsAt w (.slice none 0 0) [] := ⟨none, 0, rfl, fun j hj => by simp at hj⟩
theorem open_words {H : Type} {enc : TypeId × Value → H} {W : World} {base : Nat} {v : Value} {d : DataW H} {p : List MemPlace} (ov : Value.okWide Try.prog W .any base 22 v)
    (h : DataW.Trod enc Try.prog W 0 (fun _ => true) true 22 v d p) : ∃ L, wordsAt W v L ∧ L.length ≤ maxLen ∧ Fits L ∧ nilNone v ∧ (∀ a n c, v = .slice a n c → n ≤ c) := by
  obtain ⟨a0, len, cap, rfl⟩ := okWide_slice Try.underlying22 ov
  obtain ⟨fuel, hf⟩ := h
  rcases Deep.open_slice_pairs Try.underlying22 Try.underlying30 Try.cells30 rfl rfl Try.cells9 Try.cells3 hf with ⟨hcs, _⟩ | ⟨a, len', cap', m, n, V0, V1, D0, D1, P0, P1, hcs, _, hl, hm, hmm, _, hall⟩
  · have e : Value.slice a0 len cap = .slice none 0 0 := by simpa [Value.cells] using hcs
    cases e
    exact ⟨[], wordsAt.nil W, by simp, fun z hz => by simp at hz, fun n c e => by cases e; rfl, fun a n c e => by cases e; exact Nat.le_refl _⟩
  · have e : Value.slice a0 len cap = .slice (some a) len' cap' := by simpa [Value.cells] using hcs
    cases e
    have hm' : m = cap := by simpa using hmm
    subst hm'
    have each : ∀ i, i < len → ∃ q : ByteArray × Int, V0 i = .string q.1 ∧ V1 i = .int .i64 q.2 ∧ q.1.size ≤ 9223372036854775807 ∧ -9223372036854775808 ≤ q.2 ∧ q.2 ≤ 9223372036854775807 := by
      intro i hi
      obtain ⟨_, _, t0, t1⟩ := hall i (by omega)
      obtain ⟨s, e0, _, hs⟩ := DataW.trod_string Try.underlying9 t0
      obtain ⟨z, e1, _, hz⟩ := DataW.trod_int Try.underlying3 t1
      simp only [List.cons.injEq, and_true] at e0 e1
      exact ⟨(s, z), e0, e1, by unfold maxLen at hs; exact hs, bounds_i64 hz⟩
    obtain ⟨q, hq⟩ := Deep.choose_lt each
    have hlen : ((List.range len).map q).length = len := by simp
    refine ⟨(List.range len).map q, ⟨some a, m, by rw [hlen], fun j hj => ⟨a, rfl, ?_⟩⟩, by rw [hlen]; omega, ?_, fun n c e => (by cases e), fun a n c e => (by cases e; exact hl)⟩
    · have hj' : j < len := by simpa using hj
      obtain ⟨c0, c1, _, _⟩ := hall j (by omega)
      obtain ⟨q0, q1, _⟩ := hq j hj'
      rw [q0] at c0
      rw [q1] at c1
      have hg : ((List.range len).map q)[j] = q j := by simp
      rw [hg, ← two_cell]
      exact ⟨block_of_cell c0, c0, c1⟩
    · intro p hp
      obtain ⟨i, hi, rfl⟩ := List.mem_map.1 hp
      exact (hq i (by simpa using hi)).2.2
/-- The slice value v owns the words L. -/
def ownW (w : World) (base : Nat) (v : Value) (L : Bag) : Prop := w.ownsRow base 30 2 v L.length (wcells L)
theorem ownW.lt {w : World} {base : Nat} {v : Value} {L : Bag} (h : ownW w base v L) : ∀ k, v.ownBlock = some k → base ≤ k ∧ k < w.heap.size := World.ownsRow.lt h
theorem ownW.kept {w w' : World} {base : Nat} {v : Value} {L : Bag} (h : ownW w base v L) (hk : ∀ g, v.ownBlock = some g → w'.heap[g]? = w.heap[g]?) : ownW w' base v L := by
  refine ⟨h.1, ?_⟩
  rcases h.2 with hn | ⟨g, cap, cur, rfl, hb, hgg, rest⟩
  · exact .inl hn
  · exact .inr ⟨g, cap, cur, rfl, hb, by rw [hk g rfl]; exact hgg, rest⟩
theorem ownW.below {w w' : World} {base : Nat} {v : Value} {L : Bag} (h : ownW w base v L) (hb : Below w.heap.size w w') : ownW w' base v L := h.kept fun g hg => hb.block g (h.lt g hg).2
theorem ownW.block {w : World} {base : Nat} {v : Value} {L : Bag} (h : ownW w base v L) : ∀ g, v.ownBlock = some g → ∃ cs, w.heap[g]? = some (.cells cs 30 (0, 0)) := by
  intro g hg
  rcases h.2 with ⟨rfl, _⟩ | ⟨g', cap, cur, rfl, _, hgg, _⟩
  · simp [Value.ownBlock] at hg
  · simp [Value.ownBlock] at hg; subst hg; exact ⟨cur, hgg⟩
theorem ownW.mono {w : World} {b b' : Nat} {v : Value} {L : Bag} (h : ownW w b v L) (hb : b' ≤ b) : ownW w b' v L := by
  refine ⟨h.1, ?_⟩
  rcases h.2 with hn | ⟨g, cap, cur, rfl, hb2, rest⟩
  · exact .inl hn
  · exact .inr ⟨g, cap, cur, rfl, Nat.le_trans hb hb2, rest⟩
theorem ownW.nil (w : World) (b : Nat) : ownW w b (.slice none 0 0) [] := ⟨rfl, .inl ⟨rfl, rfl⟩⟩
theorem ownW.reads {w : World} {base : Nat} {v : Value} {L : Bag} (h : ownW w base v L) : wordsAt w v L := by
  rcases h.2 with ⟨rfl, h0⟩ | ⟨g, cap, cur, rfl, hb, hg, h1, h2, h3, h4⟩
  · refine ⟨none, 0, by rw [h0], fun j hj => by omega⟩
  · have hc : ∀ i u, (wcells L)[i]? = some u → w.cell? ((⟨g, 0, none⟩ : Addr).add i) = some u := by
      intro i u hu
      have hi : i < L.length * 2 := by have := (List.getElem?_eq_some_iff.1 hu).1; rwa [wcells_len] at this
      rw [add_zero_off, cell_of_row w g i cur 30 (0, 0) hg, ← hu, ← h4, List.getElem?_take_of_lt hi]
      simp
    refine ⟨_, cap, rfl, fun j hj => ⟨_, rfl, (Array.getElem?_eq_some_iff.1 hg).1, hc _ _ (wcells_at L hj).1, by rw [← two_cell]; exact hc _ _ (wcells_at L hj).2⟩⟩
theorem ownW.form {w : World} {base : Nat} {v : Value} {L : Bag} (h : ownW w base v L) : ∃ a cap, v = .slice a L.length cap ∧ L.length ≤ cap := by
  rcases h.2 with ⟨rfl, h0⟩ | ⟨g, cap, cur, rfl, _, _, h1, _⟩
  · exact ⟨none, 0, by rw [h0], by omega⟩
  · exact ⟨_, cap, rfl, h1⟩
theorem ownW.nilNone {w : World} {base : Nat} {v : Value} {L : Bag} (h : ownW w base v L) : nilNone v := by
  rcases h.2 with ⟨rfl, h0⟩ | ⟨g, cap, cur, rfl, _⟩
  · intro n c e; cases e; rfl
  · intro n c e; cases e
theorem ownW.app {w2 : World} {b : Nat} {r : Value} {A B : Bag} {n : Nat} (h : w2.ownsRow b 30 2 r (A.length + n) (wcells A ++ wcells B)) (hn : n = B.length) : ownW w2 b r (A ++ B) := by
  unfold ownW; rw [List.length_append, wcells_append, ← hn]; exact h
theorem run_append_words {w : World} {base : Nat} {v x : Value} {A B : Bag} (ty : TypeId) (hA : ownW w base v A) (hB : wordsAt w x B) (hnil : nilNone x) (hl : A.length + B.length ≤ 1048576) (hb : base ≤ w.heap.size) :
    ∃ r w', (Builtin.append_ #[22, 22] ty #[v, x]).run Try.prog w = .ok r w' ∧ ownW w' base r (A ++ B) ∧ w.grownBy w' v.ownBlock ∧ (r.ownBlock = v.ownBlock ∨ r.ownBlock = some w.heap.size) := by
  obtain ⟨j0, hj, hy0, hy1, hy2⟩ := info_parts Try.info30
  obtain ⟨a, c, rfl, hc⟩ := hB
  cases a with
  | none =>
    obtain rfl := hnil _ _ rfl
    have hB0 : B = [] := by
      cases B with
      | nil => rfl
      | cons b r => obtain ⟨ad, e, _⟩ := hc 0 (by simp); cases e
    subst hB0
    exact ⟨v, w, run_append_owned_none w base 22 ty 30 j0 2 Try.underlying22 hj v _ _ hA, by simpa using hA, ⟨rfl, rfl, rfl, Nat.le_refl _, fun _ _ _ => rfl⟩, .inl rfl⟩
  | some ad =>
    have hsrc : ∀ j u, (wcells B)[j]? = some u → w.cell? (ad.add j) = some u := by
      intro i u hu
      have hi : i < B.length * 2 := by have := (List.getElem?_eq_some_iff.1 hu).1; rwa [wcells_len] at this
      obtain ⟨ad', e, _, h1, h2⟩ := hc (i / 2) (by omega)
      cases e
      rw [← two_cell] at h2
      obtain ⟨k1, k2⟩ := wcells_at B (j := i / 2) (by omega)
      rcases Nat.mod_two_eq_zero_or_one i with hm | hm
      · have ei : i / 2 * 2 = i := by omega
        rw [ei] at h1 k1
        rw [hu] at k1; cases k1; exact h1
      · have ei : i / 2 * 2 + 1 = i := by omega
        rw [ei] at h2 k2
        rw [hu] at k2; cases k2; exact h2
    obtain ⟨r, w', hr, h2, h3, _, h5⟩ := run_append_own_at (P := Try.prog) w base 22 ty 30 j0 (.agg #[.string ⟨#[]⟩, .int .i64 0]) 2 24 Try.underlying22 hj hy0 hy1 hy2 rfl (by decide) v A.length (wcells A) hA ad B.length c (wcells B) (wcells_len B) hsrc (wcells_one B) (by unfold maxLen; omega) (by omega) hb
    exact ⟨r, w', hr, ownW.app h2 rfl, h3, h5⟩
theorem wpList_append_words {w : World} {ops : Array Oper} {rest : List Oper} {o : Oper} {a : Act} {Q : Exit → Act → World → Prop} (hgd : o.guard = none) (s x : Operand)
    (ho : o.op = .call { callee := .builtin .append, args := #[s, x], argTypes := #[22, 22] }) (base : Nat) (v y : Value) (A B : Bag) (hs : a.eval s = v) (hx : a.eval x = y)
    (hA : ownW w base v A) (hB : wordsAt w y B) (hnil : nilNone y) (hl : A.length + B.length ≤ 1048576) (hb : base ≤ w.heap.size)
    (h : ∀ r w', ownW w' base r (A ++ B) → w.grownBy w' v.ownBlock → (r.ownBlock = v.ownBlock ∨ r.ownBlock = some w.heap.size) → wpList Try.prog ops Q rest (a.put o.dst r) w') : wpList Try.prog ops Q (o :: rest) a w := by
  refine wpList_plain hgd fun K hK => ?_
  obtain ⟨r, w', hr, h2, h3, h4⟩ := run_append_words o.type hA hB hnil hl hb
  unfold Oper.wp execOp
  simp only [ho, resolve, invoke, builtin, Sem.run_bind, Sem.run_pure, Result.andThen_ok, List.map_toArray, List.map_cons, List.map_nil, hs, hx, hr]
  exact hK _ _ (h r w' h2 h3 h4)
/-- A row of one word, laid. -/
theorem one_word (w : World) (s : ByteArray) (c : Int) : wordsAt (w.alloc (.cells #[.string s, .int .i64 c] 30)) (.slice (some ⟨w.heap.size, 0, none⟩) 1 1) [(s, c)] := by
  refine ⟨_, 1, rfl, fun j hj => ⟨_, rfl, by simp, ?_⟩⟩
  have hj0 : j = 0 := by simpa using hj
  subst hj0
  rw [← two_cell, add_zero_off, add_zero_off, cell_of_row _ _ _ _ 30 (0, 0) (heap_alloc_new w _), cell_of_row _ _ _ _ 30 (0, 0) (heap_alloc_new w _)]
  exact ⟨rfl, rfl⟩
end Go.Proofs.Ytikdhlpmoldijaa
