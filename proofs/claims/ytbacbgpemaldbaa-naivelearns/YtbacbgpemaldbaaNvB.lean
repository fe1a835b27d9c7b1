/- The best merge, as plain lists: what has been seen, and which is the best of it. -/
import Derived.Test.YtbacbgpemaldbaaNvC
namespace Go.Proofs.Ytbacbgpemaldbaa
open Go.RowKit

/-- The best of what was seen. -/
def BestIn (WW : List (List ByteArray)) (C : List Int) (S : List Mg) (b : Mg) (n : Int) : Prop :=
  (S = [] ∧ b = noM ∧ n = 0) ∨ (b ∈ S ∧ 1 ≤ n ∧ cntW b WW C = n ∧ ∀ m ∈ S, cntW m WW C ≤ n ∧ (cntW m WW C = n → m ≠ b → aheadM b m = true))
/-- Just those are seen that stand ahead of place k of word i. -/
def SeenTo (WW : List (List ByteArray)) (C : List Int) (S : List Mg) (i : Nat) (w : List ByteArray) (k : Nat) : Prop := ∀ m, m ∈ S ↔ (1 ≤ cntW m (WW.take i) (C.take i) ∨ 1 ≤ cntT m (w.take (k + 1)))
variable {WW : List (List ByteArray)} {C : List Int} {S : List Mg} {b m : Mg} {n : Int} {i k : Nat} {w : List ByteArray}
set_option maxRecDepth 100000 in
theorem best_none (WW : List (List ByteArray)) (C : List Int) : BestIn WW C [] noM 0 := .inl ⟨rfl, rfl, rfl⟩
set_option maxRecDepth 100000 in
theorem BestIn.pos (h : BestIn WW C S b n) : 0 ≤ n := by rcases h with ⟨_, _, h⟩ | ⟨_, h, _⟩ <;> omega
set_option maxRecDepth 100000 in
/-- One more that is better. -/
theorem BestIn.turn (h : BestIn WW C S b n) (h1 : 1 ≤ cntW m WW C) (hb : n < cntW m WW C ∨ (cntW m WW C = n ∧ aheadM m b = true)) : BestIn WW C (S ++ [m]) m (cntW m WW C) := by
  refine .inr ⟨by simp, h1, rfl, fun m' hm' => ?_⟩
  rcases List.mem_append.1 hm' with hm' | hm'
  · rcases h with ⟨h2, _, _⟩ | ⟨h2, h3, h4, h5⟩
    · rw [h2] at hm'; simp at hm'
    · obtain ⟨a1, a2⟩ := h5 m' hm'
      rcases hb with hb | ⟨hb, hb2⟩
      · exact ⟨by omega, fun e => by omega⟩
      · refine ⟨by omega, fun e _ => ?_⟩
        by_cases e2 : m' = b
        · rw [e2]; exact hb2
        · exact aheadM_trans hb2 (a2 (by omega) e2)
  · rw [List.mem_singleton] at hm'
    rw [hm']
    exact ⟨Int.le_refl _, fun _ hne => absurd rfl hne⟩
set_option maxRecDepth 100000 in
/-- One more that isn't. -/
theorem BestIn.keep (h : BestIn WW C S b n) (h1 : 1 ≤ cntW m WW C) (hb : ¬ (n < cntW m WW C ∨ (cntW m WW C = n ∧ aheadM m b = true))) : BestIn WW C (S ++ [m]) b n := by
  rcases h with ⟨h2, h3, h4⟩ | ⟨h2, h3, h4, h5⟩
  · exact absurd (.inl (by omega)) hb
  · refine .inr ⟨List.mem_append.2 (.inl h2), h3, h4, fun m' hm' => ?_⟩
    rcases List.mem_append.1 hm' with hm' | hm'
    · exact h5 m' hm'
    · rw [List.mem_singleton] at hm'
      rw [hm']
      refine ⟨by by_cases e : n < cntW m WW C; exact absurd (.inl e) hb; omega, fun e hne => ?_⟩
      rcases aheadM_total hne with k | k
      · exact absurd (.inr ⟨e, k⟩) hb
      · exact k
set_option maxRecDepth 100000 in
/-- At the end. -/
theorem BestIn.best (h : BestIn WW C S b n) (hs : ∀ m, m ∈ S ↔ 1 ≤ cntW m WW C) : BestRel WW C b n := by
  rcases h with ⟨h2, h3, h4⟩ | ⟨h2, h3, h4, h5⟩
  · refine .inl ⟨h4, h3, fun m' => ?_⟩
    have h6 := (cntW_le m' WW C).1
    by_cases e : 1 ≤ cntW m' WW C
    · have := (hs m').2 e; rw [h2] at this; simp at this
    · omega
  · refine .inr ⟨h3, h4, fun m' => ?_⟩
    by_cases e : 1 ≤ cntW m' WW C
    · exact h5 m' ((hs m').2 e)
    · exact ⟨by omega, fun e2 => by omega⟩
set_option maxRecDepth 100000 in
theorem seen_start (WW : List (List ByteArray)) (C : List Int) (w : List ByteArray) : SeenTo WW C [] 0 w 0 := fun m => by
  rw [cnt_take_one]
  simp [cntW]
set_option maxRecDepth 100000 in
/-- A pair that stands there. -/
theorem SeenTo.more (h : SeenTo WW C S i w k) (hk : k + 1 < w.length) (S' : List Mg) (hS : ∀ m, m ∈ S' ↔ m ∈ S ∨ m = (w[k]'(by omega), w[k + 1])) : SeenTo WW C S' i w (k + 1) := fun m => by
  rw [hS, h m, cnt_take hk]
  have e : m = (w[k]'(by omega), w[k + 1]) ↔ (w[k]'(by omega) = m.1 ∧ w[k + 1] = m.2) := ⟨fun e => by rw [e]; exact ⟨rfl, rfl⟩, fun e => Prod.ext e.1.symm e.2.symm⟩
  rw [e]
  constructor
  · rintro ((h | h) | h)
    · exact .inl h
    · exact .inr (by omega)
    · exact .inr (by rw [if_pos h]; omega)
  · rintro (h | h)
    · exact .inl (.inl h)
    · by_cases e : w[k]'(by omega) = m.1 ∧ w[k + 1] = m.2
      · exact .inr e
      · rw [if_neg e] at h; exact .inl (.inr (by omega))
set_option maxRecDepth 100000 in
/-- A word is at its end. -/
theorem SeenTo.next (hi : i < WW.length) (hc : i < C.length) (hC : 1 ≤ C[i]) (h : SeenTo WW C S i WW[i] k) (hk : WW[i].length ≤ k + 1) (w' : List ByteArray) : SeenTo WW C S (i + 1) w' 0 := fun m => by
  rw [h m, cntW_next hi hc, if_pos hC, cnt_take_one, List.take_of_length_le hk]
  have h1 := (cntW_le m (WW.take i) (C.take i)).1
  constructor
  · rintro (h | h)
    · have : 0 ≤ (cntT m WW[i] : Int) * C[i] := Int.mul_nonneg (by omega) (by omega)
      exact .inl (by omega)
    · have : 1 * C[i] ≤ (cntT m WW[i] : Int) * C[i] := Int.mul_le_mul_of_nonneg_right (by omega) (by omega)
      exact .inl (by omega)
  · rintro (h | h)
    · by_cases e : cntT m WW[i] = 0
      · rw [e] at h; exact .inl (by simpa using h)
      · exact .inr (by omega)
    · omega
set_option maxRecDepth 100000 in
/-- A word that plays no part. -/
theorem SeenTo.skip (hi : i < WW.length) (hc : i < C.length) (hC : C[i] < 1) (h : SeenTo WW C S i w 0) (w' : List ByteArray) : SeenTo WW C S (i + 1) w' 0 := fun m => by
  rw [h m, cntW_next hi hc, if_neg (by omega), cnt_take_one, cnt_take_one]
  simp
set_option maxRecDepth 100000 in
theorem SeenTo.end (hi : WW.length ≤ i ∨ C.length ≤ i) (h : SeenTo WW C S i w 0) : ∀ m, m ∈ S ↔ 1 ≤ cntW m WW C := fun m => by
  rw [h m, cnt_take_one, cntW_all hi]
  simp
set_option maxRecDepth 100000 in
theorem SeenTo.word (h : SeenTo WW C S i w 0) (w' : List ByteArray) : SeenTo WW C S i w' 0 := fun m => by
  rw [h m, cnt_take_one, cnt_take_one]
set_option maxRecDepth 100000 in
/-- What stands in a word is counted. -/
theorem stands_cnt (hi : i < WW.length) (hc : i < C.length) (hC : 1 ≤ C[i]) (hk : k + 1 < WW[i].length) : 1 ≤ cntW (WW[i][k]'(by omega), WW[i][k + 1]) WW C := by
  have h1 := cntW_split (WW[i][k]'(by omega), WW[i][k + 1]) WW C (i + 1)
  have h2 := cntW_next (m := (WW[i][k]'(by omega), WW[i][k + 1])) hi hc
  have h3 := (cntW_le (WW[i][k]'(by omega), WW[i][k + 1]) (WW.take i) (C.take i)).1
  have h4 := (cntW_le (WW[i][k]'(by omega), WW[i][k + 1]) (WW.drop (i + 1)) (C.drop (i + 1))).1
  have h5 := cnt_take (m := (WW[i][k]'(by omega), WW[i][k + 1])) hk
  rw [if_pos ⟨rfl, rfl⟩] at h5
  have h6 : cntT (WW[i][k]'(by omega), WW[i][k + 1]) (WW[i].take (k + 2)) ≤ cntT (WW[i][k]'(by omega), WW[i][k + 1]) WW[i] := by
    have : ∀ (m : Mg) (w : List ByteArray) (j : Nat), cntT m (w.take j) ≤ cntT m w := by
      intro m w
      induction w with
      | nil => intro j; simp
      | cons x r ih =>
        intro j
        cases j with
        | zero => simp [cntT]
        | succ j =>
          cases r with
          | nil => simp [cntT]
          | cons y r =>
            cases j with
            | zero => simp [cntT]
            | succ j =>
              have := ih (j + 1)
              simp only [List.take_succ_cons] at *
              unfold cntT
              omega
    exact this _ _ _
  rw [if_pos hC] at h2
  have h7 : 1 * C[i] ≤ (cntT (WW[i][k]'(by omega), WW[i][k + 1]) WW[i] : Int) * C[i] := Int.mul_le_mul_of_nonneg_right (by omega) (by omega)
  omega
end Go.Proofs.Ytbacbgpemaldbaa
