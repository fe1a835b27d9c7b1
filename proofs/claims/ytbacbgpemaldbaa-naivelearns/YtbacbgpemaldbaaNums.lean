/- Sums and products that are looked at, as plain numbers. -/
namespace Go.Proofs.Ytbacbgpemaldbaa

/-- The sum of two, if all is within. -/
def addOf (a b : Int) : Int × Bool := if 0 ≤ a ∧ 0 ≤ b ∧ a + b ≤ 9223372036854775807 then (a + b, true) else (0, false)
/-- The product of two, if all is within. -/
def mulOf (a b : Int) : Int × Bool := if 0 ≤ a ∧ 0 ≤ b ∧ a * b ≤ 9223372036854775807 then (a * b, true) else (0, false)
set_option maxRecDepth 100000 in
theorem addOf_yes {a b : Int} (ha : 0 ≤ a) (hb : 0 ≤ b) (h : a + b ≤ 9223372036854775807) : addOf a b = (a + b, true) := if_pos ⟨ha, hb, h⟩
set_option maxRecDepth 100000 in
theorem addOf_no {a b : Int} (h : ¬ (0 ≤ a ∧ 0 ≤ b ∧ a + b ≤ 9223372036854775807)) : addOf a b = (0, false) := if_neg h
set_option maxRecDepth 100000 in
theorem mulOf_yes {a b : Int} (ha : 0 ≤ a) (hb : 0 ≤ b) (h : a * b ≤ 9223372036854775807) : mulOf a b = (a * b, true) := if_pos ⟨ha, hb, h⟩
set_option maxRecDepth 100000 in
theorem mulOf_no {a b : Int} (h : ¬ (0 ≤ a ∧ 0 ≤ b ∧ a * b ≤ 9223372036854775807)) : mulOf a b = (0, false) := if_neg h
set_option maxRecDepth 100000 in
theorem addOf_comm (a b : Int) : addOf a b = addOf b a := by
  unfold addOf
  rw [Int.add_comm b a]
  by_cases h : 0 ≤ a ∧ 0 ≤ b ∧ a + b ≤ 9223372036854775807
  · rw [if_pos h, if_pos ⟨h.2.1, h.1, h.2.2⟩]
  · rw [if_neg h, if_neg fun k => h ⟨k.2.1, k.1, k.2.2⟩]
set_option maxRecDepth 100000 in
theorem mulOf_comm (a b : Int) : mulOf a b = mulOf b a := by
  unfold mulOf
  rw [Int.mul_comm b a]
  by_cases h : 0 ≤ a ∧ 0 ≤ b ∧ a * b ≤ 9223372036854775807
  · rw [if_pos h, if_pos ⟨h.2.1, h.1, h.2.2⟩]
  · rw [if_neg h, if_neg fun k => h ⟨k.2.1, k.1, k.2.2⟩]
set_option maxRecDepth 100000 in
theorem addOf_in (a b : Int) : 0 ≤ (addOf a b).1 ∧ (addOf a b).1 ≤ 9223372036854775807 := by
  unfold addOf
  split
  · exact ⟨by simp only; omega, by simp only; omega⟩
  · exact ⟨by simp, by simp⟩
set_option maxRecDepth 100000 in
theorem mulOf_in (a b : Int) : 0 ≤ (mulOf a b).1 ∧ (mulOf a b).1 ≤ 9223372036854775807 := by
  unfold mulOf
  split
  · rename_i h; exact ⟨Int.mul_nonneg h.1 h.2.1, h.2.2⟩
  · exact ⟨by simp, by simp⟩
/-- The sum of all, going on from t. -/
def sumFrom (t : Int) : List Int → Int × Bool
  | [] => (t, true)
  | n :: r => bif (addOf t n).2 then sumFrom (addOf t n).1 r else (0, false)
/-- The sum of the products, going on from t. -/
def dotFrom (t : Int) : List Int → List Int → Int × Bool
  | a :: A, b :: B => bif (mulOf a b).2 then (bif (addOf t (mulOf a b).1).2 then dotFrom (addOf t (mulOf a b).1).1 A B else (0, false)) else (0, false)
  | [], [] => (t, true)
  | _, _ => (0, false)
set_option maxRecDepth 100000 in
/-- Times 1 is as it was. -/
theorem dot_ones (A : List Int) (hA : ∀ a ∈ A, a ≤ 9223372036854775807) : ∀ t, dotFrom t A (List.replicate A.length 1) = sumFrom t A := by
  induction A with
  | nil => intro t; rfl
  | cons a A ih =>
    intro t
    rw [List.length_cons, List.replicate_succ, dotFrom, sumFrom]
    have ha := hA a (by simp)
    by_cases h : 0 ≤ a
    · rw [mulOf_yes h (by decide) (by omega), Int.mul_one]
      simp only [cond_true]
      rw [ih (fun x hx => hA x (by simp [hx]))]
    · rw [mulOf_no (fun k => h k.1), addOf_no (a := t) (b := a) (fun k => h k.2.1)]
      rfl
set_option maxRecDepth 100000 in
theorem sumFrom_eq (L : List Int) : ∀ t, 0 ≤ t → t ≤ 9223372036854775807 → sumFrom t L = if (∀ x ∈ L, 0 ≤ x) ∧ t + L.sum ≤ 9223372036854775807 then (t + L.sum, true) else (0, false) := by
  induction L with
  | nil => intro t h0 h1; simp [sumFrom, h1]
  | cons n r ih =>
    intro t h0 h1
    rw [sumFrom, List.sum_cons]
    by_cases h : 0 ≤ n ∧ t + n ≤ 9223372036854775807
    · rw [addOf_yes h0 h.1 h.2, cond_true, ih _ (by simp only; omega) (by simp only; omega)]
      have e : t + n + r.sum = t + (n + r.sum) := by omega
      simp only [e, List.forall_mem_cons, h.1, true_and]
    · rw [addOf_no (fun k => h ⟨k.2.1, k.2.2⟩), cond_false, if_neg]
      intro k
      have hn := k.1 n (by simp)
      have hr : 0 ≤ r.sum := by
        have : ∀ l : List Int, (∀ x ∈ l, 0 ≤ x) → 0 ≤ l.sum := by
          intro l
          induction l with
          | nil => intro _; simp
          | cons a l il => intro hl; rw [List.sum_cons]; have := il fun x hx => hl x (by simp [hx]); have := hl a (by simp); omega
        exact this r fun x hx => k.1 x (by simp [hx])
      have := k.2
      exact h ⟨hn, by omega⟩
set_option maxRecDepth 100000 in
/-- A sum is the same in any order. -/
theorem sum_perm {L M : List Int} (h : L.Perm M) : sumFrom 0 L = sumFrom 0 M := by
  rw [sumFrom_eq L 0 (by decide) (by decide), sumFrom_eq M 0 (by decide) (by decide)]
  have hs : L.sum = M.sum := by
    induction h with
    | nil => rfl
    | cons x _ ih => rw [List.sum_cons, List.sum_cons, ih]
    | swap x y l => simp only [List.sum_cons]; omega
    | trans _ _ h1 h2 => rw [h1, h2]
  have hm : (∀ x ∈ L, 0 ≤ x) ↔ (∀ x ∈ M, 0 ≤ x) := ⟨fun k x hx => k x (h.mem_iff.2 hx), fun k x hx => k x (h.mem_iff.1 hx)⟩
  rw [hs]
  simp only [hm]
/-- Two places exchanged. -/
def swapAt (L : List Int) (a b : Nat) : List Int := (L.set a (L.getD b 0)).set b (L.getD a 0)
set_option maxRecDepth 100000 in
theorem swapAt_perm (L : List Int) (a b : Nat) (ha : a < L.length) (hb : b < L.length) : (swapAt L a b).Perm L := by
  have h := Array.swap_perm (xs := L.toArray) (i := a) (j := b) (by simpa using ha) (by simpa using hb)
  have h2 := Array.perm_iff_toList_perm.1 h
  rw [Array.swap_def] at h2
  simpa [swapAt, List.getD, ha, hb] using h2
set_option maxRecDepth 100000 in
theorem swapAt_len (L : List Int) (a b : Nat) : (swapAt L a b).length = L.length := by simp [swapAt]
end Go.Proofs.Ytbacbgpemaldbaa
