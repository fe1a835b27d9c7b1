/- A row of pairs, as an argument; what a symbol's text tells. -/
import Derived.Test.YtgjailjnnbpbdaaAwake
import Derived.Deep.SlicePairs
namespace Go.Proofs.Ytgjailjnnbpbdaa
open Go.ChangeShapes Go.WideShapes Go.RowKit

theorem Try.cells32 : Try.prog.cellsOf 32 = 2 := by kernel_rfl
/-- Pairs of an argument. -/
def FitsP (L : List (Int × Int)) : Prop := ∀ p ∈ L, (-9223372036854775808 ≤ p.1 ∧ p.1 ≤ 9223372036854775807) ∧ (-9223372036854775808 ≤ p.2 ∧ p.2 ≤ 9223372036854775807)
theorem open_pairs {H : Type} {enc : TypeId × Value → H} {W : World} {base : Nat} {v : Value} {d : DataW H} {p : List MemPlace} (ov : Value.okWide Try.prog W .any base 22 v)
    (h : DataW.Trod enc Try.prog W 0 (fun _ => true) true 22 v d p) : ∃ L, eltsAt pairE W v L ∧ L.length ≤ maxLen ∧ FitsP L ∧ nilNone v ∧ (∀ a n c, v = .slice a n c → n ≤ c) := by
  obtain ⟨a0, len, cap, rfl⟩ := okWide_slice Try.underlying22 ov
  obtain ⟨fuel, hf⟩ := h
  rcases Deep.open_slice_pairs Try.underlying22 Try.underlying32 Try.cells32 rfl rfl Try.cells3 Try.cells3 hf with ⟨hcs, _⟩ | ⟨a, len', cap', m, n, V0, V1, D0, D1, P0, P1, hcs, _, hl, hm, hmm, _, hall⟩
  · have e : Value.slice a0 len cap = .slice none 0 0 := by simpa [Value.cells] using hcs
    cases e
    exact ⟨[], eltsAt.nil W, by simp, fun z hz => by simp at hz, fun n c e => by cases e; rfl, fun a n c e => by cases e; exact Nat.le_refl _⟩
  · have e : Value.slice a0 len cap = .slice (some a) len' cap' := by simpa [Value.cells] using hcs
    cases e
    have hm' : m = cap := by simpa using hmm
    subst hm'
    have each : ∀ i, i < len → ∃ q : Int × Int, V0 i = .int .i64 q.1 ∧ V1 i = .int .i64 q.2 ∧ (-9223372036854775808 ≤ q.1 ∧ q.1 ≤ 9223372036854775807) ∧ (-9223372036854775808 ≤ q.2 ∧ q.2 ≤ 9223372036854775807) := by
      intro i hi
      obtain ⟨_, _, t0, t1⟩ := hall i (by omega)
      obtain ⟨y, e0, _, hy⟩ := DataW.trod_int Try.underlying3 t0
      obtain ⟨z, e1, _, hz⟩ := DataW.trod_int Try.underlying3 t1
      simp only [List.cons.injEq, and_true] at e0 e1
      exact ⟨(y, z), e0, e1, bounds_i64 hy, bounds_i64 hz⟩
    obtain ⟨q, hq⟩ := Deep.choose_lt each
    have hlen : ((List.range len).map q).length = len := by simp
    refine ⟨(List.range len).map q, ⟨some a, m, by rw [hlen], fun j hj => ⟨a, rfl, ?_⟩⟩, by rw [hlen]; omega, ?_, fun n c e => (by cases e), fun a n c e => (by cases e; exact hl)⟩
    · have hj' : j < len := by simpa using hj
      obtain ⟨c0, c1, _, _⟩ := hall j (by omega)
      obtain ⟨q0, q1, _⟩ := hq j hj'
      rw [q0] at c0
      rw [q1] at c1
      have hg : ((List.range len).map q)[j] = q j := by simp
      rw [hg]
      refine ⟨block_of_cell c0, fun i u hu => ?_⟩
      match i, hu with
      | 0, hu => cases hu; exact c0
      | 1, hu => cases hu; exact c1
    · intro p hp
      obtain ⟨i, hi, rfl⟩ := List.mem_map.1 hp
      exact (hq i (by simpa using hi)).2.2
theorem pairs_at {w wr : World} {L : List (Int × Int)} {ad : Addr} {n cap : Nat} (h : eltsAt pairE w (.slice (some ad) n cap) L) (hb : Below w.heap.size w wr) {k : Nat} (hk : k < L.length) :
    wr.cell? (ad.add (k * 2)) = some (.int .i64 L[k].1) ∧ wr.cell? ⟨(ad.add (k * 2)).block, (ad.add (k * 2)).off + 1, none⟩ = some (.int .i64 L[k].2) := by
  have := elts_at h hb hk
  exact ⟨this 0 _ rfl, by rw [← two_cell]; exact this 1 _ rfl⟩
theorem OwnT.drew {w wr : World} {K : Nat} {J : List Joint} (h : OwnT w K J wr) : OwnT w K J wr.drew := by
  obtain ⟨v, b, h1, h2, h3⟩ := h
  exact ⟨v, b, h1.drew, h2, h3.drew⟩
theorem join_ok {J : List Joint} {a c : Int} (h : (joinOf J a c).1.2 = 0) : (joinOf J a c).1.1 = ((256 + J.length : Nat) : Int) ∧ thereOf (joinOf J a c).2 (joinOf J a c).1.1 = true := by
  cases h1 : (thereOf J a && thereOf J c) with
  | false => rw [join_arg h1] at h; cases h
  | true =>
    by_cases hl : 65536 < (txtOf J a).size + (txtOf J c).size
    · rw [join_long h1 hl] at h; cases h
    · cases hf : (findOf J (txtOf J a ++ txtOf J c)).2 with
      | true => rw [join_repeat h1 hl hf] at h; cases h
      | false =>
        rw [join_new h1 hl hf]
        refine ⟨rfl, there_iff.2 ⟨?_, ?_⟩⟩
        · show (0 : Int) ≤ ((256 + J.length : Nat) : Int); omega
        · show ((256 + J.length : Nat) : Int).toNat < _
          rw [texts_len, List.length_append, List.length_singleton]; omega
theorem find_txt {J : List Joint} (hg : Good J) {a : Int} (h : thereOf J a = true) : findOf J (txtOf J a) = (a, true) := by
  obtain ⟨h0, h1⟩ := there_iff.1 h
  unfold findOf
  rw [txt_there h0 h1, find_some h1 hg.nodup rfl]
  congr 1
  omega
theorem txt_inj {J : List Joint} (hg : Good J) {a b : Int} (ha : thereOf J a = true) (hb : thereOf J b = true) (h : txtOf J a = txtOf J b) : a = b := by
  have h1 := find_txt hg ha
  rw [h, find_txt hg hb] at h1
  simp only [Prod.mk.injEq, and_true] at h1
  exact h1.symm
/-- What is told of a symbol that was joined. -/
theorem joint_facts {J : List Joint} (hg : Good J) {a : Int} (h : 256 ≤ a) (ht : thereOf J a = true) : ∃ p q, jointOf J a = ((txtOf J a, p, q), true) ∧ thereOf J p = true ∧ thereOf J q = true ∧ (0 ≤ p ∧ p < a) ∧ (0 ≤ q ∧ q < a) ∧ txtOf J p ++ txtOf J q = txtOf J a := by
  obtain ⟨h0, h1⟩ := there_iff.1 ht
  rw [texts_len] at h1
  obtain ⟨k, hk⟩ : ∃ k : Nat, a = ((256 + k : Nat) : Int) := ⟨(a - 256).toNat, by omega⟩
  have hkJ : k < J.length := by omega
  have e := joint_yes hkJ hk
  obtain ⟨g1, g2, g3⟩ := hg.each k hkJ
  have j1 := (joint_txt (J := J) (id := a) h).1
  rw [e] at j1
  refine ⟨J[k].2.1, J[k].2.2, ?_, there_iff.2 ⟨g1.1, by rw [texts_len]; omega⟩, there_iff.2 ⟨g2.1, by rw [texts_len]; omega⟩, by omega, by omega, ?_⟩
  · rw [e, ← j1]
  · rw [← j1]; exact g3.symm
theorem joint_low {J : List Joint} {a : Int} (h : a < 256 ∨ thereOf J a = false) : jointOf J a = ((noText, 0, 0), false) := by
  refine joint_not fun ⟨k1, k2⟩ => ?_
  rcases h with h | h
  · omega
  · have := there_iff (J := J) (id := a) |>.2 ⟨by omega, by rw [texts_len]; omega⟩
    rw [h] at this; cases this
/-- Two numbers laid apart, and read again behind what turns nothing that was there. -/
theorem pbox_at {w8 w9 : World} {p q : Int} (hb : Below (w8.alloc (.cells #[.int .i64 p, .int .i64 q] 32)).heap.size (w8.alloc (.cells #[.int .i64 p, .int .i64 q] 32)) w9) : w9.cell? ⟨w8.heap.size, 0, none⟩ = some (.int .i64 p) ∧ w9.cell? ⟨w8.heap.size, 1, none⟩ = some (.int .i64 q) := by
  have hh := heap_alloc_new w8 (.cells #[.int .i64 p, .int .i64 q] 32)
  have hlt := (Array.getElem?_eq_some_iff.1 hh).1
  exact ⟨(hb.cell hlt).trans (by rw [cell_of_row _ _ 0 _ 32 (0, 0) hh]; rfl), (hb.cell hlt).trans (by rw [cell_of_row _ _ 1 _ 32 (0, 0) hh]; rfl)⟩
theorem text_ne {a b : ByteArray} (h : a ≠ b) : (a.toList == b.toList) = false := by
  refine beq_eq_false_iff_ne.2 fun e => h (bs_inj ?_)
  rwa [ByteArray.toList_eq, ByteArray.toList_eq] at e
end Go.Proofs.Ytgjailjnnbpbdaa
