/- Merges one behind another; what they spell: plain lists. -/
import Derived.Test.YtdnokkmnpgdplaaDoc
namespace Go.Proofs.Ytdnokkmnpgdplaa
open Go.RowKit Go.Maps

def spell (s : Int) (p : Int × Int) (X : List Int) : List Int := X.flatMap fun x => if x = s then [p.1, p.2] else [x]
theorem spell_cons (s : Int) (p : Int × Int) (x : Int) (X : List Int) : spell s p (x :: X) = (if x = s then [p.1, p.2] else [x]) ++ spell s p X := rfl
theorem spell_snoc (s : Int) (p : Int × Int) (x : Int) (X : List Int) : spell s p (X ++ [x]) = spell s p X ++ (if x = s then [p.1, p.2] else [x]) := by simp [spell]
theorem spell_len (s : Int) (p : Int × Int) : ∀ X : List Int, (spell s p X).length ≤ 2 * X.length
  | [] => by simp [spell]
  | x :: r => by
    have := spell_len s p r
    rw [spell_cons]
    split <;> simp <;> omega
theorem spell_merge {p : Int × Int} {s : Int} : ∀ {X : List Int}, (∀ x ∈ X, x ≠ s) → spell s p (mergeL p s X) = X
  | [], _ => rfl
  | [x], h => by simp [mergeL, spell, h x (by simp)]
  | x :: y :: r, h => by
    rw [mergeL]
    split
    · rename_i e
      rw [spell_cons, if_pos rfl, spell_merge (X := r) fun z hz => h z (by simp [hz]), ← e.1, ← e.2]
      rfl
    · rw [spell_cons, if_neg (h x (by simp)), spell_merge (X := y :: r) fun z hz => h z (List.mem_cons_of_mem _ hz)]
      rfl
/-- The symbols behind so many merges, the i-th one makes the symbol 1000 + i. -/
def runX (X : List Int) (L : List (Int × Int)) : Nat → List Int
  | 0 => X
  | i + 1 => mergeL (L.getD i (0, 0)) (1000 + (i : Int)) (runX X L i)
theorem runX_mem {X : List Int} {L : List (Int × Int)} (h : ∀ x ∈ X, 0 ≤ x ∧ x < 256) : ∀ (i : Nat), ∀ x ∈ runX X L i, 0 ≤ x ∧ (x < 256 ∨ 1000 ≤ x) ∧ x < 1000 + (i : Int)
  | 0, x, hx => by have := h x hx; omega
  | i + 1, x, hx => by
    rcases mergeL_mem hx with e | e
    · have := runX_mem h i x e; omega
    · omega
theorem runX_len (X : List Int) (L : List (Int × Int)) : ∀ i, (runX X L i).length ≤ X.length
  | 0 => Nat.le_refl _
  | i + 1 => by
    have := runX_len X L i
    have := merge_len (p := L.getD i (0, 0)) (s := 1000 + (i : Int)) (runX X L i)
    rw [runX]; omega
theorem runX_spell {X : List Int} {L : List (Int × Int)} (h : ∀ x ∈ X, 0 ≤ x ∧ x < 256) {i : Nat} (hi : i < L.length) : spell (1000 + (i : Int)) L[i] (runX X L (i + 1)) = runX X L i := by
  rw [runX, show L.getD i (0, 0) = L[i] by simp [hi]]
  exact spell_merge fun x hx => by have := runX_mem h i x hx; omega
theorem runX_succ {X : List Int} {L : List (Int × Int)} {i : Nat} (hi : i < L.length) : runX X L (i + 1) = mergeL L[i] (1000 + (i : Int)) (runX X L i) := by
  rw [runX, show L.getD i (0, 0) = L[i] by simp [hi]]
theorem two_elt (w : World) (a b : Int) : eltsAt intE (w.alloc (.cells #[.int .i64 a, .int .i64 b] 3)) (.slice (some ⟨w.heap.size, 0, none⟩) 2 2) [a, b] :=
  (rowE.own (R := intE) (b := 0) (L := [a, b]) ⟨_, heap_alloc_new w _, rfl⟩ (Nat.zero_le _) (by unfold maxLen; simp)).reads
theorem pair_some {w : World} {L : List (Int × Int)} {a : Option Addr} {n c : Nat} (h : eltsAt pairE w (.slice a n c) L) {k : Nat} (hk : k < L.length) : ∃ ad, a = some ad := by
  obtain ⟨_, _, e, hc⟩ := h
  obtain ⟨ad, e2, _⟩ := hc k hk
  exact ⟨ad, (Value.slice.inj e).1.trans e2⟩
theorem int_at {w : World} {L : List Int} {a : Option Addr} {n c : Nat} (h : eltsAt intE w (.slice a n c) L) {k : Nat} (hk : k < L.length) : ∃ ad, a = some ad ∧ w.cell? (ad.add k) = some (.int .i64 L[k]) := by
  obtain ⟨_, _, e, hc⟩ := h
  obtain ⟨ad, e2, _, h1⟩ := hc k hk
  refine ⟨ad, (Value.slice.inj e).1.trans e2, ?_⟩
  have := h1 0 _ rfl
  rwa [show k * intE.n + 0 = k by show k * 1 + 0 = k; omega] at this
/-- The sequence behind so many merges. -/
def RunRel (w : World) (K g : Nat) (X : List Int) (L : List (Int × Int)) (i : Value) (wr : World) : Prop :=
  ∃ (k : Nat) (Y : List Int), i = .int .i64 (k : Int) ∧ k ≤ L.length ∧ SeqO wr K g (runX X L k) Y ∧ Below w.heap.size w wr
end Go.Proofs.Ytdnokkmnpgdplaa
