/- A heap as a plain list: what sinks, what rises, what is on top. -/
import Derived.Test.YtbnekkcjkdghcaaRows
namespace Go.Proofs.Ytbnekkcjkdghcaa

/-- 'Better' is an order in which things may be alike. -/
structure Ranks {α : Type} (bt : α → α → Bool) : Prop where
  asym : ∀ a b, bt a b = true → bt b a = false
  ntr : ∀ a b c, bt a b = false → bt b c = false → bt a c = false
set_option maxRecDepth 100000 in
theorem Ranks.irr {α : Type} {bt : α → α → Bool} (R : Ranks bt) (a : α) : bt a a = false := by
  cases h : bt a a with
  | false => rfl
  | true => rw [R.asym a a h] at h; cases h
variable {α : Type} {bt : α → α → Bool} {A : List α}
/-- Place i stands below place q. -/
def Kid (q i : Nat) : Prop := i = 2 * q + 1 ∨ i = 2 * q + 2
/-- From place k on nothing below a place is better than what stands there. -/
def HeapFrom (bt : α → α → Bool) (A : List α) (k : Nat) : Prop := ∀ i q (hi : i < A.length) (hq : q < A.length), Kid q i → k ≤ q → bt A[i] A[q] = false
/-- Two places changed. -/
def exch (A : List α) (i j : Nat) (hi : i < A.length) (hj : j < A.length) : List α := (A.set i A[j]).set j A[i]
set_option maxRecDepth 100000 in
theorem exch_len (A : List α) {i j : Nat} (hi : i < A.length) (hj : j < A.length) : (exch A i j hi hj).length = A.length := by simp [exch]
set_option maxRecDepth 100000 in
theorem exch_perm (A : List α) {i j : Nat} (hi : i < A.length) (hj : j < A.length) : (exch A i j hi hj).Perm A := List.set_set_perm hi hj
set_option maxRecDepth 100000 in
theorem exch_at (A : List α) {i j m : Nat} (hi : i < A.length) (hj : j < A.length) (hm : m < A.length) : (exch A i j hi hj)[m]'(by rw [exch_len]; exact hm) = if j = m then A[i] else if i = m then A[j] else A[m] := by
  unfold exch
  rw [List.getElem_set]
  split
  · rfl
  · rw [List.getElem_set]
/-- All is well from place k on, but perhaps what stands below place p. -/
structure Sk (bt : α → α → Bool) (A : List α) (k p : Nat) : Prop where
  a : ∀ i q (hi : i < A.length) (hq : q < A.length), Kid q i → k ≤ q → q ≠ p → bt A[i] A[q] = false
  b : ∀ i q (hi : i < A.length) (hq : q < A.length), Kid p i → Kid q p → k ≤ q → bt A[i] A[q] = false
set_option maxRecDepth 100000 in
theorem sk_start {k : Nat} (h : HeapFrom bt A (k + 1)) : Sk bt A k k where
  a := fun i q hi hq hk hkq hne => h i q hi hq hk (by omega)
  b := fun i q hi hq hk hk2 hkq => by unfold Kid at hk2; omega
set_option maxRecDepth 100000 in
theorem sk_step (R : Ranks bt) {k p c : Nat} (h : Sk bt A k p) (hp : p < A.length) (hc : c < A.length) (hk : Kid p c) (hkp : k ≤ p) (best : ∀ s (hs : s < A.length), Kid p s → bt A[s] A[c] = false) (hb : bt A[c] A[p] = true) : Sk bt (exch A c p hc hp) k c where
  a := fun i q hi hq hki hkq hne => by
    rw [exch_len] at hi hq
    rw [exch_at A hc hp hi, exch_at A hc hp hq]
    unfold Kid at hk hki
    by_cases e1 : p = q
    · subst e1
      rw [if_neg (by omega), if_pos rfl]
      by_cases e2 : c = i
      · subst e2
        rw [if_pos rfl]
        exact R.asym _ _ hb
      · rw [if_neg e2]
        exact best i hi hki
    · rw [if_neg (c := p = q) e1, if_neg (c := c = q) (fun e => hne e.symm)]
      by_cases e2 : p = i
      · subst e2
        rw [if_pos rfl]
        exact h.b c q hc hq hk hki hkq
      · rw [if_neg e2]
        by_cases e3 : c = i
        · subst e3
          exfalso; omega
        · rw [if_neg e3]
          exact h.a i q hi hq hki hkq (fun e => e1 e.symm)
  b := fun i q hi hq hki hkq hkk => by
    rw [exch_len] at hi hq
    rw [exch_at A hc hp hi, exch_at A hc hp hq]
    unfold Kid at hk hkq hki
    have e1 : q = p := by omega
    have hi' : i < A.length := hi
    subst e1
    rw [if_neg (by omega), if_neg (by omega), if_pos rfl]
    exact h.a i c hi' hc hki (by omega) (by omega)
set_option maxRecDepth 100000 in
theorem sk_stop {k p : Nat} (h : Sk bt A k p) (hp : ∀ i (hi : i < A.length) (hq : p < A.length), Kid p i → bt A[i] A[p] = false) : HeapFrom bt A k := by
  intro i q hi hq hki hkq
  by_cases e : q = p
  · subst e; exact hp i hi hq hki
  · exact h.a i q hi hq hki hkq e
/-- All is well, but perhaps what stands at place p below its parent. -/
structure Rk (bt : α → α → Bool) (A : List α) (p : Nat) : Prop where
  a : ∀ i q (hi : i < A.length) (hq : q < A.length), Kid q i → i ≠ p → bt A[i] A[q] = false
  b : ∀ i q (hi : i < A.length) (hq : q < A.length), Kid p i → Kid q p → bt A[i] A[q] = false
set_option maxRecDepth 100000 in
theorem rk_start (x : α) (h : HeapFrom bt A 0) : Rk bt (A ++ [x]) A.length where
  a := fun i q hi hq hk hne => by
    rw [List.length_append, List.length_singleton] at hi hq
    unfold Kid at hk
    rw [List.getElem_append_left (by omega), List.getElem_append_left (by omega)]
    exact h i q (by omega) (by omega) hk (Nat.zero_le _)
  b := fun i q hi hq hk hk2 => by
    rw [List.length_append, List.length_singleton] at hi
    unfold Kid at hk
    omega
set_option maxRecDepth 100000 in
theorem rk_step (R : Ranks bt) {p q : Nat} (h : Rk bt A p) (hp : p < A.length) (hq : q < A.length) (hk : Kid q p) (hb : bt A[p] A[q] = true) : Rk bt (exch A p q hp hq) q where
  a := fun i r hi hr hki hne => by
    rw [exch_len] at hi hr
    rw [exch_at A hp hq hi, exch_at A hp hq hr]
    unfold Kid at hk hki
    rw [if_neg (c := q = i) (fun e => hne e.symm)]
    by_cases e1 : p = i
    · subst e1
      have e2 : r = q := by omega
      subst e2
      rw [if_pos rfl, if_pos rfl]
      exact R.asym _ _ hb
    · rw [if_neg e1]
      by_cases e2 : q = r
      · subst e2
        rw [if_pos rfl]
        exact R.ntr _ _ _ (h.a i q hi hq hki (fun e => e1 e.symm)) (R.asym _ _ hb)
      · rw [if_neg e2]
        by_cases e3 : p = r
        · subst e3
          rw [if_pos rfl]
          exact h.b i q hi hq hki hk
        · rw [if_neg e3]
          exact h.a i r hi hr hki (fun e => e1 e.symm)
  b := fun i r hi hr hki hkr => by
    rw [exch_len] at hi hr
    rw [exch_at A hp hq hi, exch_at A hp hq hr]
    unfold Kid at hk hki hkr
    rw [if_neg (c := q = i) (by omega), if_neg (c := q = r) (by omega), if_neg (c := p = r) (by omega)]
    by_cases e1 : p = i
    · subst e1
      rw [if_pos rfl]
      exact h.a q r hq hr hkr (by omega)
    · rw [if_neg e1]
      exact R.ntr _ _ _ (h.a i q hi hq hki (fun e => e1 e.symm)) (h.a q r hq hr hkr (by omega))
set_option maxRecDepth 100000 in
theorem rk_top (h : Rk bt A 0) : HeapFrom bt A 0 := fun i q hi hq hk _ => h.a i q hi hq hk (by unfold Kid at hk; omega)
set_option maxRecDepth 100000 in
theorem rk_stop {p q : Nat} (h : Rk bt A p) (hp : p < A.length) (hq : q < A.length) (hk : Kid q p) (hb : bt A[p] A[q] = false) : HeapFrom bt A 0 := by
  intro i r hi hr hki _
  by_cases e : i = p
  · subst e
    unfold Kid at hk hki
    have e2 : r = q := by omega
    subst e2
    exact hb
  · exact h.a i r hi hr hki e
set_option maxRecDepth 100000 in
/-- Nothing is better than what is on top. -/
theorem heap_top (R : Ranks bt) (h : HeapFrom bt A 0) (h0 : 0 < A.length) : ∀ i (hi : i < A.length), bt A[i] A[0] = false := by
  intro i
  induction i using Nat.strongRecOn with
  | ind i ih =>
    intro hi
    by_cases e : i = 0
    · subst e; exact R.irr _
    · have hq : (i - 1) / 2 < i := by omega
      exact R.ntr _ _ _ (h i ((i - 1) / 2) hi (by omega) (by unfold Kid; omega) (Nat.zero_le _)) (ih _ hq (by omega))
set_option maxRecDepth 100000 in
theorem heap_best (R : Ranks bt) (h : HeapFrom bt A 0) (h0 : 0 < A.length) : ∀ x ∈ A, bt x A[0] = false := by
  intro x hx
  obtain ⟨i, hi, rfl⟩ := List.mem_iff_getElem.1 hx
  exact heap_top R h h0 i hi
set_option maxRecDepth 100000 in
theorem heap_half (bt : α → α → Bool) (A : List α) {k : Nat} (hk : A.length / 2 ≤ k) : HeapFrom bt A k := by
  intro i q hi hq hki hkq
  unfold Kid at hki
  omega
set_option maxRecDepth 100000 in
theorem heap_empty (bt : α → α → Bool) : HeapFrom bt ([] : List α) 0 := fun i q hi => by simp at hi
/-- What is left when the last one is laid on top. -/
def popL (A : List α) (m : Nat) (hm : m < A.length) : List α := (A.set 0 A[m]).take m
set_option maxRecDepth 100000 in
theorem popL_len {m : Nat} (hm : A.length = m + 1) : (popL A m (by omega)).length = m := by simp [popL]; omega
set_option maxRecDepth 100000 in
theorem popL_at {m i : Nat} (hm : A.length = m + 1) (hi : i < m) : (popL A m (by omega))[i]'(by rw [popL_len hm]; exact hi) = if 0 = i then A[m] else A[i] := by
  simp only [popL, List.getElem_take, List.getElem_set]
set_option maxRecDepth 100000 in
theorem popL_sk {m : Nat} (hm : A.length = m + 1) (h : HeapFrom bt A 0) : Sk bt (popL A m (by omega)) 0 0 where
  a := fun i q hi hq hk _ hne => by
    rw [popL_len hm] at hi hq
    unfold Kid at hk
    rw [popL_at hm hi, popL_at hm hq, if_neg (by omega), if_neg (by omega)]
    exact h i q (by omega) (by omega) hk (Nat.zero_le _)
  b := fun i q hi hq hk hk2 _ => by unfold Kid at hk2; omega
set_option maxRecDepth 100000 in
theorem popL_perm {m : Nat} (hm : A.length = m + 1) : A.Perm (A[0] :: popL A m (by omega)) := by
  cases A with
  | nil => simp at hm
  | cons a t =>
    unfold popL
    rcases List.eq_nil_or_concat t with rfl | ⟨s, z, rfl⟩
    · obtain rfl : m = 0 := by simpa using hm.symm
      simp
    · obtain rfl : m = s.length + 1 := by simpa using hm.symm
      have e : (a :: (s ++ [z]))[s.length + 1]'(by simp) = z := by simp
      simp only [List.concat_eq_append, List.set_cons_zero, List.getElem_cons_zero, List.getElem_cons_succ, List.getElem_concat_length, List.take_succ_cons, List.take_left']
      simp only [List.perm_cons]
      exact List.perm_append_comm
end Go.Proofs.Ytbnekkcjkdghcaa
