/- The program's table and the document's, side by side; Same of merges. -/
import Derived.Test.YthjblamfkfclhaaRMerges
import Derived.Test.YthjblamfkfclhaaSJoin
namespace Go.Proofs.Ythjblamfkfclhaa
open Go.RowKit Go.Maps

def MToRel (n : Nat) (w : World) (i : Value) (wr : World) : Prop := ∃ k m : Nat, i = .int .i64 (k : Int) ∧ k ≤ n ∧ wr = w.drewN m
theorem mtoRel_step {n : Nat} {w wr : World} {k m : Nat} (hk : k < n) (h : wr = w.drewN m) (q : Nat) : MToRel n w (.int .i64 ((k : Int) + 1)) (wr.drewN q) := ⟨k + 1, m + q, by simp, hk, by rw [h]; simp⟩
/-- Both tables are of the call's own: the program's has the symbols J, the document's J2. -/
def Both (w : World) (K K2 : Nat) (J J2 : List Joint) (wr : World) : Prop := ∃ v b v2 p2, Stab wr K v b J ∧ (∀ k, mineT K v b k → w.heap.size ≤ k) ∧ Rtab wr w.heap.size K2 v2 p2 J2 ∧ Below w.heap.size w wr
section
variable {w wr w2 : World} {K K2 : Nat} {J J2 : List Joint}
theorem Both.bel (h : Both w K K2 J J2 wr) : Below w.heap.size w wr := by
  obtain ⟨_, _, _, _, _, _, _, h⟩ := h
  exact h
theorem Both.good (h : Both w K K2 J J2 wr) : Good J := by
  obtain ⟨_, _, _, _, h, _⟩ := h
  exact h.good
theorem Both.below (h : Both w K K2 J J2 wr) (hb : Below wr.heap.size wr w2) : Both w K K2 J J2 w2 := by
  obtain ⟨v, b, v2, p2, h1, h2, h3, h4⟩ := h
  exact ⟨v, b, v2, p2, h1.below hb, h2, h3.below hb, h4.trans (hb.mono h4.size)⟩
theorem Both.drew (h : Both w K K2 J J2 wr) : Both w K K2 J J2 wr.drew := by
  obtain ⟨v, b, v2, p2, h1, h2, h3, h4⟩ := h
  exact ⟨v, b, v2, p2, h1.drew, h2, h3.drew, h4.drew⟩
theorem Both.drewN (h : Both w K K2 J J2 wr) (n : Nat) : Both w K K2 J J2 (wr.drewN n) := h.below (below_drewN' (Below.refl _ _) _)
theorem joinB (h : Both w K K2 J J2 wr) (hJ : J.length ≤ 900000) {a c : Int} (a0 : -9223372036854775808 ≤ a) (a1 : a ≤ 9223372036854775807) (c0 : -9223372036854775808 ≤ c) (c1 : c ≤ 9223372036854775807) :
    Calls Try.prog 18 #[.pointer (some ⟨K, 0, none⟩), .int .i64 a, .int .i64 c] wr fun e w' => e = .returned (.tuple #[.int .i64 (joinOf J a c).1.1, .int .i64 (joinOf J a c).1.2]) ∧ Both w K K2 (joinOf J a c).2 J2 w' := by
  obtain ⟨v, b, v2, p2, h1, h2, h3, h4⟩ := h
  refine (sjoin_any K v b J a c wr h1 hJ a0 a1 c0 c1).mono ?_
  rintro e w' ⟨rfl, v', b', k1, k2, k3⟩
  refine ⟨rfl, v', b', v2, p2, k1, fun k hk => ?_, h3.kept fun k hk hm => k2.block k hk fun hn => apart h1 h3 k hn hm, h4.trans (k2.below h4.size h2)⟩
  by_cases hlt : k < wr.heap.size
  · exact h2 k (k3 k hk hlt)
  · have := h4.size; omega
theorem rjoinB (h : Both w K K2 J J2 wr) (hg : Good J2) (hJ : J2.length ≤ 900000) (a c : Int) :
    Calls Try.prog 19 #[.pointer (some ⟨K2, 0, none⟩), .int .i64 a, .int .i64 c] wr fun e w' => e = .returned (.tuple #[.int .i64 (joinOf J2 a c).1.1, .int .i64 (joinOf J2 a c).1.2]) ∧ Both w K K2 J (joinOf J2 a c).2 w' := by
  obtain ⟨v, b, v2, p2, h1, h2, h3, h4⟩ := h
  refine (rjoin_any w.heap.size K2 v2 p2 J2 a c wr h3 hg hJ h4.size).mono ?_
  rintro e w' ⟨rfl, v', p', k1, k2⟩
  exact ⟨rfl, v, b, v', p', h1.kept fun k hk hm => k2.block k hk (apart h1 h3 k hm), h2, k1, h4.trans (k2.below h4.size fun k hk => (h3.lt k hk).1)⟩
theorem lenB (h : Both w K K2 J J2 wr) (hJ : J.length ≤ 900000) : Calls Try.prog 36 #[.pointer (some ⟨K, 0, none⟩)] wr fun e w' => e = .returned (.int .i64 ((256 + J.length : Nat) : Int)) ∧ w' = wr := by
  obtain ⟨v, b, v2, p2, h1, h2, h3, h4⟩ := h
  exact slen_any K v b J wr h1 (by omega)
theorem textB (h : Both w K K2 J J2 wr) (hJ : J.length ≤ 900000) {id : Int} (i0 : -9223372036854775808 ≤ id) (i1 : id ≤ 9223372036854775807) :
    Calls Try.prog 26 #[.pointer (some ⟨K, 0, none⟩), .int .i64 id] wr fun e w' => e = .returned (.tuple #[.string (txtOf J id), .bool (thereOf J id)]) ∧ Both w K K2 J J2 w' := by
  have H := h
  obtain ⟨v, b, v2, p2, h1, h2, h3, h4⟩ := h
  refine (text_any K v b J id wr h1 (by omega) i0 i1).mono ?_
  rintro e w' ⟨rfl, hb⟩
  exact ⟨rfl, H.below hb⟩
theorem findB (h : Both w K K2 J J2 wr) {s : ByteArray} (hs : s.size ≤ 9223372036854775807) : Calls Try.prog 27 #[.pointer (some ⟨K, 0, none⟩), .string s] wr fun e w' => e = .returned (.tuple #[.int .i64 (findOf J s).1, .bool (findOf J s).2]) ∧ w' = wr := by
  obtain ⟨v, b, v2, p2, h1, h2, h3, h4⟩ := h
  exact sfind_any K v b J s wr h1 hs
theorem rfindB (h : Both w K K2 J J2 wr) (hJ : J2.length ≤ 900000) (s : ByteArray) : Calls Try.prog 29 #[.pointer (some ⟨K2, 0, none⟩), .string s] wr fun e w' => e = .returned (.tuple #[.int .i64 (findOf J2 s).1, .bool (findOf J2 s).2]) ∧ w' = wr := by
  obtain ⟨v, b, v2, p2, h1, h2, h3, h4⟩ := h
  exact rfind_any _ K2 v2 p2 J2 s wr h3 hJ
theorem rthereB (h : Both w K K2 J J2 wr) (id : Int) : Calls Try.prog 15 #[.pointer (some ⟨K2, 0, none⟩), .int .i64 id] wr fun e w' => e = .returned (.bool (thereOf J2 id)) ∧ w' = wr := by
  obtain ⟨v, b, v2, p2, h1, h2, h3, h4⟩ := h
  exact rthere_any _ K2 v2 p2 J2 id wr h3
/-- What is read of the document's table itself. -/
theorem Both.texts (h : Both w K K2 J J2 wr) : ∃ g cap, wr.cell? ⟨K2, 0, none⟩ = some (.slice (some ⟨g, 0, none⟩) (256 + J2.length) cap) ∧ ∀ i : Nat, i < 256 + J2.length → wr.cell? ⟨g, i, none⟩ = some (.string (txtOf J2 (i : Int))) := by
  obtain ⟨v, b, v2, p2, h1, h2, h3, h4⟩ := h
  obtain ⟨c0, _, _, _⟩ := rcell h3.cells
  obtain ⟨a, cap, rfl, _⟩ := h3.texts.form
  obtain ⟨g, rfl, _⟩ := ownE_some h3.texts (by rw [texts_len]; omega)
  rw [texts_len] at c0
  refine ⟨g, cap, c0, fun i hi => ?_⟩
  have hi' : i < (textsOf J2).length := by rw [texts_len]; exact hi
  have x := texts_cell h3.texts.reads (Below.refl _ wr) hi'
  have ex := txt_there (J := J2) (id := (i : Int)) (by omega) (by simpa using hi')
  simp only [Int.toNat_natCast] at ex
  rw [add_zero_off, ← ex] at x
  exact x
theorem Both.pairs (h : Both w K K2 J J2 wr) {k : Nat} (hk : k < J2.length) : ∃ g cap, wr.cell? ⟨K2, 1, none⟩ = some (.slice (some ⟨g, 0, none⟩) J2.length cap) ∧ wr.cell? ⟨g, k * 2, none⟩ = some (.int .i64 J2[k].2.1) ∧ wr.cell? ⟨g, k * 2 + 1, none⟩ = some (.int .i64 J2[k].2.2) := by
  obtain ⟨v, b, v2, p2, h1, h2, h3, h4⟩ := h
  obtain ⟨_, c1, _, _⟩ := rcell h3.cells
  obtain ⟨a, cap, rfl, _⟩ := h3.pairs.form
  obtain ⟨g, rfl, _⟩ := ownE_some h3.pairs (by simp; omega)
  have hk' : k < (J2.map (·.2)).length := by simpa using hk
  have hp := elts_at h3.pairs.reads (Below.refl _ wr) hk'
  have e : (J2.map (·.2))[k] = J2[k].2 := by simp
  have p0 := hp 0 (.int .i64 J2[k].2.1) (by rw [e]; rfl)
  have p1 := hp 1 (.int .i64 J2[k].2.2) (by rw [e]; rfl)
  rw [add_zero_off] at p0 p1
  rw [List.length_map] at c1
  exact ⟨g, cap, c1, p0, p1⟩
end
end Go.Proofs.Ythjblamfkfclhaa
