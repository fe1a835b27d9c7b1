/- Texts in one: WRow, Same. -/
import Derived.Test.YtnmacalbbmeedaaGreatQ05
import Derived.Test.YtnmacalbbmeedaaGreatQ03
import Derived.Deep.SlicePairs
/- Rows of words with counts, read, owned or made. -/
namespace Go.Proofs.YtnmacalbbmeedaaGreat
open Go.ChangeShapes Go.WideShapes Go.RowKit

set_option maxRecDepth 100000 in
theorem Tryz.cells56 : Tryz.prog.cellsOf 56 = 2 := by kernel_rfl
def wcells (L : Bag) : List Value := L.flatMap fun p => [.string p.1, .int .i64 p.2]
set_option maxRecDepth 100000 in
theorem wcells_len (L : Bag) : (wcells L).length = L.length * 2 := by
  induction L with
  | nil => rfl
  | cons q r ih => unfold wcells at ih ⊢; rw [List.flatMap_cons, List.length_append, ih]; simp; omega
set_option maxRecDepth 100000 in
theorem wcells_append (a b : Bag) : wcells (a ++ b) = wcells a ++ wcells b := by simp [wcells]
set_option maxRecDepth 100000 in
theorem wcells_at : ∀ (L : Bag) {j : Nat} (hj : j < L.length), (wcells L)[j * 2]? = some (.string L[j].1) ∧ (wcells L)[j * 2 + 1]? = some (.int .i64 L[j].2)
  | q :: r, 0, _ => ⟨rfl, rfl⟩
  | q :: r, j + 1, hj => by
    have ih := wcells_at r (j := j) (by simpa using hj)
    have e : wcells (q :: r) = .string q.1 :: .int .i64 q.2 :: wcells r := rfl
    have e1 : (j + 1) * 2 = j * 2 + 1 + 1 := by omega
    rw [e, e1]
    simp only [List.getElem?_cons_succ, List.getElem_cons_succ]
    exact ih
/-- The slice value v reads as the words L. -/
def wordsAt (w : World) (v : Value) (L : Bag) : Prop :=
  ∃ a cap, v = .slice a L.length cap ∧ ∀ j (h : j < L.length), ∃ ad, a = some ad ∧ ad.block < w.heap.size ∧ w.cell? (ad.add (j * 2)) = some (.string L[j].1) ∧ w.cell? ⟨(ad.add (j * 2)).block, (ad.add (j * 2)).off + 1, none⟩ = some (.int .i64 L[j].2)
/-- Words of an argument. -/
def Fits (L : Bag) : Prop := ∀ p ∈ L, p.1.size ≤ 9223372036854775807 ∧ -9223372036854775808 ≤ p.2 ∧ p.2 ≤ 9223372036854775807
set_option maxRecDepth 100000 in
theorem Fits.at {L : Bag} (h : Fits L) {j : Nat} (hj : j < L.length) : L[j].1.size ≤ 9223372036854775807 ∧ -9223372036854775808 ≤ L[j].2 ∧ L[j].2 ≤ 9223372036854775807 := h _ (List.getElem_mem hj)
set_option maxRecDepth 100000 in
theorem Sound.fits {L : Bag} (h : Sound L) : Fits L := fun p hp => by have := h.2 p hp; exact ⟨this.2.2, by omega, this.2.1⟩
set_option maxRecDepth 100000 in
theorem wordsAt.below {w w' : World} {v : Value} {L : Bag} {B : Nat} (h : wordsAt w v L) (hb : Below B w w') (hB : w.heap.size ≤ B) : wordsAt w' v L := by
  obtain ⟨a, cap, rfl, hc⟩ := h
  refine ⟨a, cap, rfl, fun j hj => ?_⟩
  obtain ⟨ad, rfl, hlt, h1, h2⟩ := hc j hj
  exact ⟨ad, rfl, Nat.lt_of_lt_of_le hlt hb.size, (hb.cell (by rw [add_block]; omega)).trans h1, (hb.cell (by show (ad.add (j * 2)).block < B; rw [add_block]; omega)).trans h2⟩
set_option maxRecDepth 100000 in
theorem wordsAt.drew {w : World} {v : Value} {L : Bag} (h : wordsAt w v L) (n : Nat) : wordsAt (w.drewN n) v L := h
set_option maxRecDepth 100000 in
theorem wordsAt.nil (w : World) : wordsAt w (.slice none 0 0) [] := ⟨none, 0, rfl, fun j hj => by simp at hj⟩
set_option maxRecDepth 100000 in
theorem open_words {H : Type} {enc : TypeId × Value → H} {W : World} {base : Nat} {v : Value} {d : DataW H} {p : List MemPlace} (ov : Value.okWide Tryz.prog W .any base 22 v)
    (h : DataW.Trod enc Tryz.prog W 0 (fun _ => true) true 22 v d p) : ∃ L, wordsAt W v L ∧ L.length ≤ maxLen ∧ Fits L ∧ nilNone v ∧ (∀ a n c, v = .slice a n c → n ≤ c) := by
  obtain ⟨a0, len, cap, rfl⟩ := okWide_slice Tryz.underlying22 ov
  obtain ⟨fuel, hf⟩ := h
  rcases Deep.open_slice_pairs Tryz.underlying22 Tryz.underlying56 Tryz.cells56 rfl rfl Tryz.cells9 Tryz.cells3 hf with ⟨hcs, _⟩ | ⟨a, len', cap', m, n, V0, V1, D0, D1, P0, P1, hcs, _, hl, hm, hmm, _, hall⟩
  · have e : Value.slice a0 len cap = .slice none 0 0 := by simpa [Value.cells] using hcs
    cases e
    exact ⟨[], wordsAt.nil W, by simp, fun z hz => by simp at hz, fun n c e => by cases e; rfl, fun a n c e => by cases e; exact Nat.le_refl _⟩
  · have e : Value.slice a0 len cap = .slice (some a) len' cap' := by simpa [Value.cells] using hcs
    cases e
    have hm' : m = cap := by simpa using hmm
    subst hm'
    have each : ∀ i, i < len → ∃ q : ByteArray × Int, V0 i = .string q.1 ∧ V1 i = .int .i64 q.2 ∧ q.1.size ≤ 9223372036854775807 ∧ -9223372036854775808 ≤ q.2 ∧ q.2 ≤ 9223372036854775807 := by
      intro i hi
      obtain ⟨_, _, t0, t1⟩ := hall i (by omega)
      obtain ⟨s, e0, _, hs⟩ := DataW.trod_string Tryz.underlying9 t0
      obtain ⟨z, e1, _, hz⟩ := DataW.trod_int Tryz.underlying3 t1
      simp only [List.cons.injEq, and_true] at e0 e1
      exact ⟨(s, z), e0, e1, by unfold maxLen at hs; exact hs, bounds_i64 hz⟩
    obtain ⟨q, hq⟩ := Deep.choose_lt each
    have hlen : ((List.range len).map q).length = len := by simp
    refine ⟨(List.range len).map q, ⟨some a, m, by rw [hlen], fun j hj => ⟨a, rfl, ?_⟩⟩, by rw [hlen]; omega, ?_, fun n c e => (by cases e), fun a n c e => (by cases e; exact hl)⟩
    · have hj' : j < len := by simpa using hj
      obtain ⟨c0, c1, _, _⟩ := hall j (by omega)
      obtain ⟨q0, q1, _⟩ := hq j hj'
      rw [q0] at c0
      rw [q1] at c1
      have hg : ((List.range len).map q)[j] = q j := by simp
      rw [hg, ← two_cell]
      exact ⟨block_of_cell c0, c0, c1⟩
    · intro p hp
      obtain ⟨i, hi, rfl⟩ := List.mem_map.1 hp
      exact (hq i (by simpa using hi)).2.2
/-- The slice value v owns the words L. -/
def ownW (w : World) (base : Nat) (v : Value) (L : Bag) : Prop := w.ownsRow base 56 2 v L.length (wcells L)
set_option maxRecDepth 100000 in
theorem ownW.lt {w : World} {base : Nat} {v : Value} {L : Bag} (h : ownW w base v L) : ∀ k, v.ownBlock = some k → base ≤ k ∧ k < w.heap.size := World.ownsRow.lt h
set_option maxRecDepth 100000 in
theorem ownW.kept {w w' : World} {base : Nat} {v : Value} {L : Bag} (h : ownW w base v L) (hk : ∀ g, v.ownBlock = some g → w'.heap[g]? = w.heap[g]?) : ownW w' base v L := by
  refine ⟨h.1, ?_⟩
  rcases h.2 with hn | ⟨g, cap, cur, rfl, hb, hgg, rest⟩
  · exact .inl hn
  · exact .inr ⟨g, cap, cur, rfl, hb, by rw [hk g rfl]; exact hgg, rest⟩
set_option maxRecDepth 100000 in
theorem ownW.below {w w' : World} {base : Nat} {v : Value} {L : Bag} (h : ownW w base v L) (hb : Below w.heap.size w w') : ownW w' base v L := h.kept fun g hg => hb.block g (h.lt g hg).2
set_option maxRecDepth 100000 in
theorem ownW.block {w : World} {base : Nat} {v : Value} {L : Bag} (h : ownW w base v L) : ∀ g, v.ownBlock = some g → ∃ cs, w.heap[g]? = some (.cells cs 56 (0, 0)) := by
  intro g hg
  rcases h.2 with ⟨rfl, _⟩ | ⟨g', cap, cur, rfl, _, hgg, _⟩
  · simp [Value.ownBlock] at hg
  · simp [Value.ownBlock] at hg; subst hg; exact ⟨cur, hgg⟩
set_option maxRecDepth 100000 in
theorem ownW.mono {w : World} {b b' : Nat} {v : Value} {L : Bag} (h : ownW w b v L) (hb : b' ≤ b) : ownW w b' v L := by
  refine ⟨h.1, ?_⟩
  rcases h.2 with hn | ⟨g, cap, cur, rfl, hb2, rest⟩
  · exact .inl hn
  · exact .inr ⟨g, cap, cur, rfl, Nat.le_trans hb hb2, rest⟩
set_option maxRecDepth 100000 in
theorem ownW.nil (w : World) (b : Nat) : ownW w b (.slice none 0 0) [] := ⟨rfl, .inl ⟨rfl, rfl⟩⟩
set_option maxRecDepth 100000 in
theorem ownW.reads {w : World} {base : Nat} {v : Value} {L : Bag} (h : ownW w base v L) : wordsAt w v L := by
  rcases h.2 with ⟨rfl, h0⟩ | ⟨g, cap, cur, rfl, hb, hg, h1, h2, h3, h4⟩
  · refine ⟨none, 0, by rw [h0], fun j hj => by omega⟩
  · have hc : ∀ i u, (wcells L)[i]? = some u → w.cell? ((⟨g, 0, none⟩ : Addr).add i) = some u := by
      intro i u hu
      have hi : i < L.length * 2 := by have := (List.getElem?_eq_some_iff.1 hu).1; rwa [wcells_len] at this
      rw [add_zero_off, cell_of_row w g i cur 56 (0, 0) hg, ← hu, ← h4, List.getElem?_take_of_lt hi]
      simp
    refine ⟨_, cap, rfl, fun j hj => ⟨_, rfl, (Array.getElem?_eq_some_iff.1 hg).1, hc _ _ (wcells_at L hj).1, by rw [← two_cell]; exact hc _ _ (wcells_at L hj).2⟩⟩
set_option maxRecDepth 100000 in
theorem ownW.form {w : World} {base : Nat} {v : Value} {L : Bag} (h : ownW w base v L) : ∃ a cap, v = .slice a L.length cap ∧ L.length ≤ cap := by
  rcases h.2 with ⟨rfl, h0⟩ | ⟨g, cap, cur, rfl, _, _, h1, _⟩
  · exact ⟨none, 0, by rw [h0], by omega⟩
  · exact ⟨_, cap, rfl, h1⟩
set_option maxRecDepth 100000 in
theorem ownW.nilNone {w : World} {base : Nat} {v : Value} {L : Bag} (h : ownW w base v L) : nilNone v := by
  rcases h.2 with ⟨rfl, h0⟩ | ⟨g, cap, cur, rfl, _⟩
  · intro n c e; cases e; rfl
  · intro n c e; cases e
set_option maxRecDepth 100000 in
theorem ownW.app {w2 : World} {b : Nat} {r : Value} {A B : Bag} {n : Nat} (h : w2.ownsRow b 56 2 r (A.length + n) (wcells A ++ wcells B)) (hn : n = B.length) : ownW w2 b r (A ++ B) := by
  unfold ownW; rw [List.length_append, wcells_append, ← hn]; exact h
set_option maxRecDepth 100000 in
theorem ownW.alloc {w : World} {b : Nat} {v : Value} {A : Bag} (h : ownW w b v A) (o : Obj) : ownW (w.alloc o) b v A := h.kept fun g hg => Below.heap_alloc _ _ _ (h.lt g hg).2
set_option maxRecDepth 100000 in
theorem ownW.drewN {w : World} {b : Nat} {v : Value} {L : Bag} (h : ownW w b v L) (n : Nat) : ownW (w.drewN n) b v L := h
set_option maxRecDepth 100000 in
theorem ownW.drew {w : World} {b : Nat} {v : Value} {L : Bag} (h : ownW w b v L) : ownW w.drew b v L := h
/-- Block g is a row of n words at least that may be written. -/
def rowW (w : World) (g n : Nat) : Prop := ∃ cs, w.heap[g]? = some (.cells cs 56 (0, 0)) ∧ n * 2 ≤ cs.size
set_option maxRecDepth 100000 in
theorem rowW.cells {w : World} {g n j : Nat} (h : rowW w g n) (hj : j < n) : (∃ u, w.cell? ⟨g, j * 2, none⟩ = some u) ∧ w.frozen? ⟨g, j * 2, none⟩ = false := by
  obtain ⟨cs, hg, h1⟩ := h
  refine ⟨⟨cs[j * 2], ?_⟩, Lib.frozen_of_heap hg _⟩
  rw [cell_of_row w g _ cs 56 (0, 0) hg, Array.getElem?_eq_getElem (by omega)]
set_option maxRecDepth 100000 in
theorem rowW.store {w : World} {g n : Nat} (h : rowW w g n) (j : Nat) (u : Value) : rowW (w.setCell ⟨g, j, none⟩ u) g n := by
  obtain ⟨cs, hg, h1⟩ := h
  exact ⟨_, heap_setCell_at hg u, by simpa using h1⟩
set_option maxRecDepth 100000 in
theorem wcells_set (s : ByteArray) (c : Int) : ∀ (M : Bag) (p : Nat), wcells (M.set p (s, c)) = ((wcells M).set (p * 2) (.string s)).set (p * 2 + 1) (.int .i64 c)
  | [], p => by simp [wcells]
  | q :: r, 0 => rfl
  | q :: r, p + 1 => by
    have ih := wcells_set s c r p
    have e1 : (p + 1) * 2 = p * 2 + 1 + 1 := by omega
    have e2 : (p + 1) * 2 + 1 = p * 2 + 1 + 1 + 1 := by omega
    rw [List.set_cons_succ]
    show Value.string q.1 :: Value.int .i64 q.2 :: wcells (r.set p (s, c)) = _
    rw [ih, e2, e1]
    rfl
set_option maxRecDepth 100000 in
/-- An owned row, written at one word. -/
theorem ownW.store {w : World} {b g n cap : Nat} {M : Bag} (h : ownW w b (.slice (some ⟨g, 0, none⟩) n cap) M) (p : Nat) (s : ByteArray) (c : Int) :
    ownW ((w.setCell ⟨g, p * 2, none⟩ (.string s)).setCell ⟨g, p * 2 + 1, none⟩ (.int .i64 c)) b (.slice (some ⟨g, 0, none⟩) n cap) (M.set p (s, c)) := by
  rcases h.2 with ⟨h0, _⟩ | ⟨g', cap', cur, hv, hb, hg, h1, h2, h3, h4⟩
  · cases h0
  · cases hv
    refine ⟨by rw [wcells_len], .inr ⟨g, cap, (cur.setIfInBounds (p * 2) (.string s)).setIfInBounds (p * 2 + 1) (.int .i64 c), by simp, hb, heap_setCell_at (heap_setCell_at hg _) _, by simpa using h1, by simpa using h2, by simpa using h3, ?_⟩⟩
    rw [List.length_set, Array.toList_setIfInBounds, Array.toList_setIfInBounds, List.take_set, List.take_set, h4, wcells_set]
set_option maxRecDepth 100000 in
theorem words_at {w wr : World} {L : Bag} {ad : Addr} {n cap : Nat} (h : wordsAt w (.slice (some ad) n cap) L) (hb : Below w.heap.size w wr) {k : Nat} (hk : k < L.length) :
    wr.cell? (ad.add (k * 2)) = some (.string L[k].1) ∧ wr.cell? ⟨(ad.add (k * 2)).block, (ad.add (k * 2)).off + 1, none⟩ = some (.int .i64 L[k].2) := by
  obtain ⟨a, cap', e, hc⟩ := h.below hb (Nat.le_refl _)
  cases e
  obtain ⟨ad', e, _, h1, h2⟩ := hc k hk
  cases e
  exact ⟨h1, h2⟩
set_option maxRecDepth 100000 in
/-- Two words laid apart. -/
theorem boxes {w wp : World} {b : Nat} {v : Value} {M : Bag} (ho : ownW wp b v M) (hb : Below w.heap.size w wp) (s1 s2 : ByteArray) (c1 c2 : Int) :
    ((wp.alloc (.cells #[.string s1, .int .i64 c1] 56)).alloc (.cells #[.string s2, .int .i64 c2] 56)).drew.cell? ⟨wp.heap.size, 0, none⟩ = some (.string s1) ∧
    ((wp.alloc (.cells #[.string s1, .int .i64 c1] 56)).alloc (.cells #[.string s2, .int .i64 c2] 56)).drew.cell? ⟨wp.heap.size, 1, none⟩ = some (.int .i64 c1) ∧
    ((wp.alloc (.cells #[.string s1, .int .i64 c1] 56)).alloc (.cells #[.string s2, .int .i64 c2] 56)).drew.cell? ⟨wp.heap.size + 1, 0, none⟩ = some (.string s2) ∧
    ((wp.alloc (.cells #[.string s1, .int .i64 c1] 56)).alloc (.cells #[.string s2, .int .i64 c2] 56)).drew.cell? ⟨wp.heap.size + 1, 1, none⟩ = some (.int .i64 c2) ∧
    ownW ((wp.alloc (.cells #[.string s1, .int .i64 c1] 56)).alloc (.cells #[.string s2, .int .i64 c2] 56)).drew b v M ∧
    Below w.heap.size w ((wp.alloc (.cells #[.string s1, .int .i64 c1] 56)).alloc (.cells #[.string s2, .int .i64 c2] 56)).drew := by
  have h1 : ((wp.alloc (.cells #[.string s1, .int .i64 c1] 56)).alloc (.cells #[.string s2, .int .i64 c2] 56)).drew.heap[wp.heap.size]? = some (.cells #[.string s1, .int .i64 c1] 56 (0, 0)) :=
    (Below.heap_alloc _ _ _ (by rw [World.size_alloc]; omega)).trans (heap_alloc_new wp _)
  have h2 : ((wp.alloc (.cells #[.string s1, .int .i64 c1] 56)).alloc (.cells #[.string s2, .int .i64 c2] 56)).drew.heap[wp.heap.size + 1]? = some (.cells #[.string s2, .int .i64 c2] 56 (0, 0)) := by
    have := heap_alloc_new (wp.alloc (.cells #[.string s1, .int .i64 c1] 56)) (.cells #[.string s2, .int .i64 c2] 56)
    rw [World.size_alloc] at this
    exact this
  refine ⟨?_, ?_, ?_, ?_, ((ho.alloc _).alloc _).drew, ((hb.alloc hb.size _).alloc (by rw [World.size_alloc]; have := hb.size; omega) _).drew⟩
  · rw [cell_of_row _ _ 0 _ 56 (0, 0) h1]; rfl
  · rw [cell_of_row _ _ 1 _ 56 (0, 0) h1]; rfl
  · rw [cell_of_row _ _ 0 _ 56 (0, 0) h2]; rfl
  · rw [cell_of_row _ _ 1 _ 56 (0, 0) h2]; rfl
end Go.Proofs.YtnmacalbbmeedaaGreat
/- The document's own small functions over words: Great, Same, Count, Less. -/
namespace Go.Proofs.YtnmacalbbmeedaaGreat
open Go.RowKit

def GreatRel (L : Bag) (w : World) (i : Value) (wr : World) : Prop := ∃ k : Nat, i = .int .i64 (k : Int) ∧ k ≤ L.length ∧ wr = w ∧ ∀ j (h : j < L.length), j < k → L[j].1.size ≤ 100
/-- Are there more words, or longer ones? -/
def GreatRet (L : Bag) (most : Nat) (w : World) (e : Ending) (w' : World) : Prop := ∃ g, e = .returned (.bool g) ∧ w' = w ∧ (g = false → L.length ≤ most ∧ ∀ p ∈ L, p.1.size ≤ 100)
set_option maxRecDepth 100000 in
theorem greatRel_step {L : Bag} {k : Nat} (hk : k < L.length) (h : ∀ j (h : j < L.length), j < k → L[j].1.size ≤ 100) (hs : L[k].1.size ≤ 100) (w : World) : GreatRel L w (.int .i64 ((k : Int) + 1)) w :=
  ⟨k + 1, by simp, hk, rfl, fun j hj h1 => by
    rcases Nat.lt_or_eq_of_le (Nat.le_of_lt_succ h1) with h2 | rfl
    · exact h j hj h2
    · exact hs⟩
set_option maxRecDepth 100000 in
set_option maxHeartbeats 1000000 in
theorem great_any (v : Value) (L : Bag) (most : Nat) (w : World) (hv : wordsAt w v L) (hL : L.length ≤ 9223372036854775807) :
    Calls Tryz.prog 21 #[v, .int .i64 (most : Int)] w fun e w' => GreatRet L most w e w' := by
  obtain ⟨a, cap, rfl, hc⟩ := hv
  have HC := Lib.hid hc
  clear hc
  go_enter Tryz.func21, Tryz.ntmps21
  go_wp2
  go_loopw [5] (fun i wr => GreatRel L w i wr) (fun i _ => L.length + 1 - (intOf i).toNat)
  case atStart => exact ⟨0, rfl, by omega, rfl, fun j h hj => by omega⟩
  case round =>
    obtain ⟨k, rfl, hk, rfl, hall⟩ := hrel
    have HA := Lib.hid hall
    clear hall
    by_cases hgo : k < L.length
    · have hkI : (k : Int) < (L.length : Int) := by omega
      obtain ⟨ad, rfl, hb, c0, c1⟩ := HC.out k hgo
      by_cases hs : L[k].1.size ≤ 100
      · have hs' : ¬ (100 : Int) < (L[k].1.size : Int) := by omega
        have HS := Lib.hid hs
        clear hs
        go_wp2
        go_roundw
        case rel => exact greatRel_step hgo HA.out HS.out _
        case measure => simp [intOf]; omega
      · have hs' : (100 : Int) < (L[k].1.size : Int) := by omega
        clear hs
        go_wp2
        go_ret
        exact ⟨true, rfl, rfl, fun h => by cases h⟩
    · have hkI : ¬ (k : Int) < (L.length : Int) := by omega
      go_wp2
      go_ret
      refine ⟨_, rfl, rfl, fun h => ⟨?_, fun p hp => ?_⟩⟩
      · have := of_decide_eq_false h; omega
      · obtain ⟨j, hj, rfl⟩ := List.mem_iff_getElem.1 hp
        exact HA.out j hj (by omega)
set_option maxRecDepth 100000 in
theorem before_skip : ∀ {a b : List UInt8} {k : Nat}, a.take k = b.take k → k ≤ a.length → k ≤ b.length → bytesBefore a b = bytesBefore (a.drop k) (b.drop k)
  | a, b, 0, _, _, _ => by simp
  | [], _, k + 1, _, h, _ => by simp at h
  | _, [], k + 1, _, _, h => by simp at h
  | x :: a, y :: b, k + 1, h, h1, h2 => by
    simp only [List.take_succ_cons, List.cons.injEq] at h
    obtain ⟨rfl, h⟩ := h
    rw [List.drop_succ_cons, List.drop_succ_cons, ← before_skip h (by simpa using h1) (by simpa using h2)]
    simp [bytesBefore]
set_option maxRecDepth 100000 in
theorem drop_past (s : ByteArray) {k : Nat} (h : s.size ≤ k) : (bs s).drop k = [] := List.drop_eq_nil_of_le (by rw [bs_size]; exact h)
set_option maxRecDepth 100000 in
theorem drop_at (s : ByteArray) {k : Nat} (h : k < s.size) : (bs s).drop k = s[k] :: (bs s).drop (k + 1) := by
  have hk : k < (bs s).length := by rw [bs_size]; exact h
  rw [List.drop_eq_getElem_cons hk]
  rfl
def LessRel (a b : ByteArray) (w : World) (i : Value) (wr : World) : Prop := ∃ k m : Nat, i = .int .i64 (k : Int) ∧ k ≤ a.size ∧ k ≤ b.size ∧ (bs a).take k = (bs b).take k ∧ wr = w.drewN m
set_option maxRecDepth 100000 in
theorem lessRel_step {a b : ByteArray} {w wr : World} {k m : Nat} (ha : k < a.size) (hb : k < b.size) (ht : (bs a).take k = (bs b).take k) (h : a[k] = b[k]) (hw : wr = w.drewN m) (q : Nat) : LessRel a b w (.int .i64 ((k : Int) + 1)) (wr.drewN q) :=
  ⟨k + 1, m + q, by simp, ha, hb, by rw [take_snoc a k ha, take_snoc b k hb, ht, h], by rw [hw]; simp⟩
set_option maxRecDepth 100000 in
set_option maxHeartbeats 1000000 in
theorem less_any (a b : ByteArray) (w : World) (ha : a.size ≤ 9223372036854775807) (hb : b.size ≤ 9223372036854775807) :
    Calls Tryz.prog 43 #[.string a, .string b] w fun e w' => e = .returned (.bool (ahead a b)) ∧ ∃ n, w' = w.drewN n := by
  go_enter Tryz.func43, Tryz.ntmps43
  go_wp2
  go_loopw [5] (fun i wr => LessRel a b w i wr) (fun i _ => a.size + 1 - (intOf i).toNat)
  case atStart => exact ⟨0, 0, rfl, by omega, by omega, rfl, rfl⟩
  case round =>
    obtain ⟨k, m, rfl, hka, hkb, htk, hw⟩ := hrel
    have HW := Lib.hid hw
    have HT := Lib.hid htk
    clear hw htk
    by_cases h1 : k < a.size
    · by_cases h2 : k < b.size
      · have h1I : (k : Int) < (a.size : Int) := by omega
        have h2I : (k : Int) < (b.size : Int) := by omega
        have b1 : (a[k].toNat : Int) < 256 := by have := a[k].toNat_lt; omega
        have b2 : (b[k].toNat : Int) < 256 := by have := b[k].toNat_lt; omega
        by_cases he : (a[k].toNat : Int) = (b[k].toNat : Int)
        · have HE : Hid (a[k] = b[k]) := Lib.hid (UInt8.toNat_inj.1 (by omega))
          go_wp2
          go_quiet (fail)
          go_wp2
          go_roundw
          case rel => exact lessRel_step h1 h2 HT.out HE.out HW.out _
          case measure => simp [intOf]; omega
        · go_wp2
          go_quiet (fail)
          go_wp2
          go_quiet (fail)
          go_wp2
          go_ret
          refine ⟨retB ?_, _, by rw [HW.out]; simp only [World.drewN_drewN]; rfl⟩
          unfold ahead
          rw [before_skip HT.out (by rw [bs_size]; omega) (by rw [bs_size]; omega), drop_at a h1, drop_at b h2]
          have hne : a[k] ≠ b[k] := fun e => he (by rw [e])
          simp [bytesBefore, hne, UInt8.lt_iff_toNat_lt]
      · have h1I : (k : Int) < (a.size : Int) := by omega
        have h2I : ¬ (k : Int) < (b.size : Int) := by omega
        go_wp2
        go_ret
        refine ⟨retB ?_, m, HW.out⟩
        have e : k = b.size := by omega
        unfold ahead
        rw [before_skip HT.out (by rw [bs_size]; omega) (by rw [bs_size]; omega), drop_at a h1, drop_past b (k := k) (by omega)]
        simp [bytesBefore]; omega
    · have h1I : ¬ (k : Int) < (a.size : Int) := by omega
      go_wp2
      go_ret
      refine ⟨retB ?_, m, HW.out⟩
      unfold ahead
      rw [before_skip HT.out (by rw [bs_size]; omega) (by rw [bs_size]; omega), drop_past a (k := k) (by omega)]
      by_cases h2 : k < b.size
      · rw [drop_at b h2]; simp [bytesBefore]; omega
      · rw [drop_past b (k := k) (by omega)]; simp [bytesBefore]; omega
end Go.Proofs.YtnmacalbbmeedaaGreat
