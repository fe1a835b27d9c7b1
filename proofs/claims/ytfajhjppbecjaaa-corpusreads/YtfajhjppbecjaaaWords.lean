/- Words, by plain lists. -/
import Derived.Test.YtfajhjppbecjaaaGap
namespace Go.Proofs.Ytfajhjppbecjaaa
open Go.RowKit

/-- The words that are ended, and the one that is open. -/
def ustp (p : List (List UInt8) × List UInt8) (c : UInt8) : List (List UInt8) × List UInt8 :=
  if gapB c then (if p.2 = [] then p else (p.1 ++ [p.2], [])) else (p.1, p.2 ++ [c])
def urun (l : List UInt8) : List (List UInt8) × List UInt8 := l.foldl ustp ([], [])
def ended (l : List UInt8) : List (List UInt8) := (urun l).1
def opn (l : List UInt8) : List UInt8 := (urun l).2
def endL (o : List UInt8) : List (List UInt8) := if o = [] then [] else [o]
def wordsL (l : List UInt8) : List (List UInt8) := ended l ++ endL (opn l)
theorem urun_snoc (l : List UInt8) (c : UInt8) : urun (l ++ [c]) = ustp (urun l) c := by simp [urun, List.foldl_append]
theorem ended_gap {l : List UInt8} {c : UInt8} (h : gapB c = true) : ended (l ++ [c]) = ended l ++ endL (opn l) := by
  unfold ended opn endL; rw [urun_snoc]; unfold ustp; rw [h]
  by_cases h0 : (urun l).2 = [] <;> simp [h0]
theorem opn_gap {l : List UInt8} {c : UInt8} (h : gapB c = true) : opn (l ++ [c]) = [] := by
  unfold opn; rw [urun_snoc]; unfold ustp; rw [h]
  by_cases h0 : (urun l).2 = [] <;> simp [h0]
theorem ended_more {l : List UInt8} {c : UInt8} (h : gapB c = false) : ended (l ++ [c]) = ended l := by
  unfold ended; rw [urun_snoc]; unfold ustp; rw [h]; simp
theorem opn_more {l : List UInt8} {c : UInt8} (h : gapB c = false) : opn (l ++ [c]) = opn l ++ [c] := by
  unfold opn; rw [urun_snoc]; unfold ustp; rw [h]; simp
theorem ended_nil : ended [] = [] := rfl
theorem opn_nil : opn [] = [] := rfl
/-- Lists from their end. -/
theorem snoc_ind {α : Type} {p : List α → Prop} (h0 : p []) (h1 : ∀ l c, p l → p (l ++ [c])) (l : List α) : p l := by
  rw [← List.reverse_reverse l]
  induction l.reverse with
  | nil => exact h0
  | cons c r ih => rw [List.reverse_cons]; exact h1 _ _ ih
theorem opn_split (l : List UInt8) : ∃ p, l = p ++ opn l ∧ opn p = [] ∧ ended p = ended l := by
  induction l using snoc_ind with
  | h0 => exact ⟨[], rfl, rfl, rfl⟩
  | h1 l c ih =>
    cases h : gapB c
    · obtain ⟨p, h1, h2, h3⟩ := ih
      refine ⟨p, ?_, h2, by rw [h3, ended_more h]⟩
      rw [opn_more h, ← List.append_assoc, ← h1]
    · refine ⟨l ++ [c], by rw [opn_gap h]; simp, opn_gap h, rfl⟩
theorem opn_len (l : List UInt8) : (opn l).length ≤ l.length := by
  obtain ⟨p, h, _⟩ := opn_split l
  have := congrArg List.length h
  simp only [List.length_append] at this; omega
/-- The text less its open word: its words are those that are ended. -/
theorem ended_cut (l : List UInt8) : wordsL (l.take (l.length - (opn l).length)) = ended l := by
  obtain ⟨p, h, h1, h2⟩ := opn_split l
  have hl := congrArg List.length h
  simp only [List.length_append] at hl
  have : l.take (l.length - (opn l).length) = p := by
    conv => lhs; arg 2; rw [h]
    rw [List.take_append_of_le_length (by omega), List.take_of_length_le (by omega)]
  rw [this]; unfold wordsL; rw [h1, h2]; simp [endL]
theorem opn_drop (l : List UInt8) : l.drop (l.length - (opn l).length) = opn l := by
  obtain ⟨p, h, _⟩ := opn_split l
  have hl := congrArg List.length h
  simp only [List.length_append] at hl
  have hp : l.length - (opn l).length = p.length := by omega
  rw [hp]
  conv => lhs; rw [h]
  simp
theorem opn_plain (l : List UInt8) : ∀ c ∈ opn l, gapB c = false := by
  induction l using snoc_ind with
  | h0 => simp [opn_nil]
  | h1 l c ih =>
    cases h : gapB c
    · rw [opn_more h]; intro d hd
      rcases List.mem_append.1 hd with hd | hd
      · exact ih d hd
      · simp at hd; rw [hd]; exact h
    · rw [opn_gap h]; simp
theorem ended_facts (l : List UInt8) : ∀ x ∈ ended l, x ≠ [] ∧ ∀ c ∈ x, gapB c = false := by
  induction l using snoc_ind with
  | h0 => simp [ended_nil]
  | h1 l c ih =>
    cases h : gapB c
    · rw [ended_more h]; exact ih
    · rw [ended_gap h]; intro x hx
      rcases List.mem_append.1 hx with hx | hx
      · exact ih x hx
      · unfold endL at hx
        by_cases h0 : opn l = []
        · simp [h0] at hx
        · simp [h0] at hx; subst hx; exact ⟨h0, opn_plain l⟩
theorem wordsL_facts (l : List UInt8) : ∀ x ∈ wordsL l, x ≠ [] ∧ ∀ c ∈ x, gapB c = false := by
  intro x hx
  rcases List.mem_append.1 hx with hx | hx
  · exact ended_facts l x hx
  · unfold endL at hx
    by_cases h0 : opn l = []
    · simp [h0] at hx
    · simp [h0] at hx; subst hx; exact ⟨h0, opn_plain l⟩
/-- Bytes of all words: with one gap for each, not more than the text and one. -/
theorem ended_size (l : List UInt8) : (ended l).length + (ended l).flatten.length + (opn l).length ≤ l.length := by
  induction l using snoc_ind with
  | h0 => simp [ended_nil, opn_nil]
  | h1 l c ih =>
    cases h : gapB c
    · rw [ended_more h, opn_more h]; simp [-List.length_flatten]; omega
    · rw [ended_gap h, opn_gap h]; unfold endL
      by_cases h0 : opn l = []
      · simp [h0, -List.length_flatten]; rw [h0] at ih; simp [-List.length_flatten] at ih; omega
      · simp [h0, -List.length_flatten] <;> omega
theorem ended_len (l : List UInt8) : (ended l).length ≤ l.length := by have := ended_size l; omega
theorem wordsL_size (l : List UInt8) : (wordsL l).length + (wordsL l).flatten.length ≤ l.length + 1 := by
  have := ended_size l
  unfold wordsL endL
  by_cases h0 : opn l = []
  · simp [h0, -List.length_flatten] <;> omega
  · simp [h0, -List.length_flatten] <;> omega
theorem wordsL_len (l : List UInt8) : (wordsL l).length ≤ l.length := by
  have := ended_size l
  unfold wordsL endL
  by_cases h0 : opn l = []
  · simp [h0, -List.length_flatten] <;> omega
  · have : 0 < (opn l).length := List.length_pos_iff.2 h0
    simp [h0, -List.length_flatten] <;> omega
/-! The words of words, joined again. -/
theorem more_all (x : List UInt8) : ∀ l, (∀ c ∈ x, gapB c = false) → ended (l ++ x) = ended l ∧ opn (l ++ x) = opn l ++ x := by
  induction x with
  | nil => simp
  | cons c r ih =>
    intro l h
    have hc := h c (by simp)
    obtain ⟨h1, h2⟩ := ih (l ++ [c]) (fun d hd => h d (by simp [hd]))
    rw [List.append_assoc] at h1 h2
    simp only [List.singleton_append] at h1 h2
    rw [h1, h2, ended_more hc, opn_more hc]
    simp
theorem join_step {t x : List UInt8} {g : UInt8} (ht : opn t = []) (hx : x ≠ [] ∧ ∀ c ∈ x, gapB c = false) (hg : gapB g = true) :
    ended (t ++ x ++ [g]) = ended t ++ [x] ∧ opn (t ++ x ++ [g]) = [] := by
  obtain ⟨h1, h2⟩ := more_all x t hx.2
  rw [ended_gap hg, opn_gap hg, h1, h2, ht]
  simp [endL, hx.1]
/-! With a limit. -/
/-- No word of l has more than lim bytes. -/
def fits (lim : Nat) (l : List UInt8) : Prop := ∀ k, k ≤ l.length → (opn (l.take k)).length ≤ lim
theorem fits_nil (lim : Nat) : fits lim [] := by intro k hk; simp at hk; simp [opn_nil]
theorem fits_append {lim : Nat} {a b : List UInt8} (h : fits lim (a ++ b)) : fits lim a := by
  intro k hk
  have := h k (by simp; omega)
  rwa [List.take_append_of_le_length hk] at this
theorem fits_snoc {lim : Nat} {l : List UInt8} {c : UInt8} (h : fits lim l) (hc : (opn (l ++ [c])).length ≤ lim) : fits lim (l ++ [c]) := by
  intro k hk
  by_cases hl : k ≤ l.length
  · rw [List.take_append_of_le_length hl]; exact h k hl
  · rw [List.take_of_length_le (by simp; omega)]; exact hc
theorem fits_gap {lim : Nat} {l : List UInt8} {c : UInt8} (h : fits lim l) (hc : gapB c = true) : fits lim (l ++ [c]) := fits_snoc h (by rw [opn_gap hc]; simp)
theorem fits_more {lim : Nat} {l : List UInt8} {c : UInt8} (h : fits lim l) (hc : gapB c = false) (hn : (opn l).length < lim) : fits lim (l ++ [c]) := fits_snoc h (by rw [opn_more hc]; simp; omega)
theorem fits_all {lim : Nat} {l : List UInt8} (h : l.length ≤ lim) : fits lim l := by
  intro k hk
  have := opn_len (l.take k)
  simp only [List.length_take] at this; omega
/-- At place k of l a word gets too long, and not ahead of it. -/
def longAt (lim : Nat) (l : List UInt8) (k : Nat) : Prop := k < l.length ∧ fits lim (l.take k) ∧ ¬ fits lim (l.take (k + 1))
theorem fits_le {lim : Nat} {l : List UInt8} {a b : Nat} (h : fits lim (l.take b)) (hab : a ≤ b) : fits lim (l.take a) := by
  have e := List.take_append_drop a (l.take b)
  rw [List.take_take, Nat.min_eq_left hab] at e
  rw [← e] at h; exact fits_append h
theorem longAt_uniq {lim : Nat} {l : List UInt8} {a b : Nat} (h : longAt lim l a) (k : longAt lim l b) : a = b := by
  rcases Nat.lt_trichotomy a b with c | c | c
  · exact absurd (fits_le k.2.1 (by omega)) h.2.2
  · exact c
  · exact absurd (fits_le h.2.1 (by omega)) k.2.2
theorem longAt_not {lim : Nat} {l : List UInt8} {a : Nat} (h : longAt lim l a) : ¬ fits lim l := fun hf => h.2.2 (fits_append (b := l.drop (a + 1)) (by rw [List.take_append_drop]; exact hf))
theorem longAt_mk {lim : Nat} {l : List UInt8} {c : UInt8} {r : List UInt8} (h : fits lim l) (hc : gapB c = false) (hn : lim ≤ (opn l).length) : longAt lim (l ++ c :: r) l.length := by
  refine ⟨by simp, ?_, ?_⟩
  · rw [List.take_append_of_le_length (by omega), List.take_of_length_le (by omega)]; exact h
  · have e : (l ++ c :: r).take (l.length + 1) = l ++ [c] := by
      rw [show l ++ c :: r = (l ++ [c]) ++ r by simp]
      rw [List.take_append_of_le_length (by simp), List.take_of_length_le (by simp)]
    rw [e]
    intro hf
    have := hf (l ++ [c]).length (by simp)
    rw [List.take_of_length_le (by simp), opn_more hc] at this
    simp at this; omega
theorem longAt_append {lim : Nat} {a b : List UInt8} {k : Nat} (h : longAt lim a k) : longAt lim (a ++ b) k := by
  obtain ⟨h1, h2, h3⟩ := h
  refine ⟨by simp; omega, ?_, ?_⟩
  · rw [List.take_append_of_le_length (by omega)]; exact h2
  · rw [List.take_append_of_le_length (by omega)]; exact h3
end Go.Proofs.Ytfajhjppbecjaaa
