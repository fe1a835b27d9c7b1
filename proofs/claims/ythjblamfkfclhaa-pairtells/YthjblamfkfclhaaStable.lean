/- The stable sort's plain half: places sorted by an order, and by themselves where it says nothing. -/
import Derived.Sort.LotA
namespace Go.Proofs.Ythjblamfkfclhaa
open Go.Sort

section
variable {lt : Nat → Nat → Bool}
/-- The order of places: by lt, then by themselves. -/
def lex (lt : Nat → Nat → Bool) (x y : Nat) : Bool := lt x y || (!lt y x && decide (x < y))
theorem lex_up {x y : Nat} (h : y < x) : lex lt x y = lt x y := by
  unfold lex; rw [decide_eq_false (by omega)]; simp
theorem lex_eq {x y : Nat} (h1 : lex lt x y = false) (h2 : lex lt y x = false) : x = y := by
  rcases Nat.lt_trichotomy x y with h | h | h
  · rw [lex_up h] at h2
    unfold lex at h1
    rw [decide_eq_true h, h2] at h1
    simp at h1
  · exact h
  · rw [lex_up h] at h1
    unfold lex at h2
    rw [decide_eq_true h, h1] at h2
    simp at h2
theorem lex_trans (h : SWO lt) (x y z : Nat) (hx : lex lt x y = true) (hy : lex lt y z = true) : lex lt x z = true := by
  unfold lex at *
  simp only [Bool.or_eq_true, Bool.and_eq_true, Bool.not_eq_true', decide_eq_true_eq] at *
  rcases hx with h1 | ⟨h1, h2⟩ <;> rcases hy with h3 | ⟨h3, h4⟩
  · exact .inl (h.trans _ _ _ h1 h3)
  · refine .inl ?_
    cases e : lt x z with
    | true => rfl
    | false => rw [h.ntrans _ _ _ e h3] at h1; cases h1
  · refine .inl ?_
    cases e : lt x z with
    | true => rfl
    | false => rw [h.ntrans _ _ _ h1 e] at h3; cases h3
  · exact .inr ⟨h.ntrans _ _ _ h3 h1, by omega⟩
theorem lex_irrefl (h : SWO lt) (x : Nat) : lex lt x x = false := by unfold lex; simp [h.irrefl]
theorem lex_asymm (h : SWO lt) {x y : Nat} (k : lex lt x y = true) : lex lt y x = false := by
  cases e : lex lt y x with
  | false => rfl
  | true => have := lex_trans h _ _ _ k e; rw [lex_irrefl h] at this; cases this
theorem lex_or {x y : Nat} (h : lex lt x y = false) : x = y ∨ lex lt y x = true := by
  cases e : lex lt y x with
  | false => exact .inl (lex_eq h e)
  | true => exact .inr rfl
theorem lex_swo (h : SWO lt) : SWO (lex lt) where
  irrefl := lex_irrefl h
  trans := lex_trans h
  ntrans x y z h1 h2 := by
    rcases lex_or h1 with rfl | h3
    · exact h2
    · rcases lex_or h2 with rfl | h4
      · exact h1
      · exact lex_asymm h (lex_trans h _ _ _ h4 h3)

/-! The insertion sort is stable. -/
theorem insInner_perm (lt : Nat → Nat → Bool) (a i : Nat) : ∀ (j : Nat) (d : Array Nat), a ≤ j → j ≤ i → i < d.size → PermIn a (i + 1) d (insInner lt a j d)
  | 0, d, _, _, _ => by unfold insInner; exact permIn_refl d _ _
  | j + 1, d, haj, hji, hi => by
    unfold insInner
    split
    · rename_i hc
      simp only [Bool.and_eq_true, decide_eq_true_eq] at hc
      exact permIn_trans _ _ _ _ _ (swp_permIn d a (i + 1) (j + 1) j (by omega) (by omega) (by omega) (by omega) (by omega)) (insInner_perm lt a i j _ (by omega) (by omega) (by rw [swp_size]; exact hi))
    · exact permIn_refl d _ _
theorem insInner_lex (a : Nat) : ∀ (j : Nat) (d : Array Nat), j < d.size → (∀ p, a ≤ p → p < j → d[p]! < d[j]!) → insInner lt a j d = insInner (lex lt) a j d
  | 0, d, _, _ => by unfold insInner; rfl
  | j + 1, d, hj, hup => by
    unfold insInner
    by_cases ha : a < j + 1
    · rw [lex_up (hup j (by omega) (by omega))]
      split
      · refine insInner_lex a j _ (by rw [swp_size]; omega) fun p h1 h2 => ?_
        have g := swp_get d hj (show j < d.size by omega)
        rw [g, g, if_neg (by omega), if_neg (by omega), if_pos rfl]
        exact hup p h1 (by omega)
      · rfl
    · rw [decide_eq_false (by omega)]
      simp
theorem insOuter_lex (a b : Nat) : ∀ (n i : Nat) (d : Array Nat), b - i = n → a < i → b ≤ d.size → (∀ p q, a ≤ p → p < q → i ≤ q → q < b → d[p]! < d[q]!) → insOuter lt a b i d = insOuter (lex lt) a b i d
  | 0, i, d, hn, _, _, _ => by rw [insOuter, if_neg (by omega), insOuter, if_neg (by omega)]
  | n + 1, i, d, hn, hai, hb, hup => by
    have hlt : i < b := by omega
    rw [insOuter, if_pos hlt]
    conv => rhs; rw [insOuter, if_pos hlt]
    rw [insInner_lex a i d (by omega) fun p h1 h2 => hup p i h1 h2 (by omega) hlt]
    have hp := insInner_perm (lex lt) a i i d (by omega) (Nat.le_refl _) (by omega)
    refine insOuter_lex a b n (i + 1) _ (by omega) (by omega) (by rw [hp.1]; exact hb) fun p q h1 h2 h3 h4 => ?_
    rw [hp.2.1 q (.inr h3)]
    by_cases hpi : p < i + 1
    · exact permIn_all d _ a (i + 1) (fun x => x < d[q]!) (by omega) hp (fun r hr1 hr2 => hup r q hr1 (by omega) (by omega) h4) p h1 hpi
    · rw [hp.2.1 p (.inr (by omega))]
      exact hup p q h1 h2 (by omega) h4
/-- A part is sorted stably. -/
def MOut (lt : Nat → Nat → Bool) (a b : Nat) (d d' : Array Nat) : Prop := PermIn a b d d' ∧ SortedIn (lex lt) a b d'
theorem ins_stable (h : SWO lt) {d : Array Nat} {a b : Nat} (hab : a ≤ b) (hb : b ≤ d.size) (hup : ∀ p q, a ≤ p → p < q → q < b → d[p]! < d[q]!) : MOut lt a b d (insertionSort lt d a b) := by
  have e : insertionSort lt d a b = insertionSort (lex lt) d a b := insOuter_lex a b _ (a + 1) d rfl (by omega) hb fun p q h1 h2 _ h4 => hup p q h1 h2 h4
  rw [e]
  exact insertionSort_holds (lex_swo h) d a b hab hb

/-! Two parts that are merged. -/
structure MIn (lt : Nat → Nat → Bool) (a m b : Nat) (d : Array Nat) : Prop where
  am : a ≤ m
  mb : m ≤ b
  le : b ≤ d.size
  left : SortedIn (lex lt) a m d
  right : SortedIn (lex lt) m b d
  cross : ∀ p q, a ≤ p → p < m → m ≤ q → q < b → d[p]! < d[q]!
theorem MIn.keep {a m b : Nat} {d d' : Array Nat} (h : MIn lt a m b d) (hs : d'.size = d.size) (hk : ∀ p, a ≤ p → p < b → d'[p]! = d[p]!) : MIn lt a m b d' := by
  have h1 := h.am
  have h2 := h.mb
  refine ⟨h1, h2, by rw [hs]; exact h.le, fun i j hi hij hj => ?_, fun i j hi hij hj => ?_, fun p q hp hp2 hq hq2 => ?_⟩
  · rw [hk _ (by omega) (by omega), hk _ (by omega) (by omega)]; exact h.left i j hi hij hj
  · rw [hk _ (by omega) (by omega), hk _ (by omega) (by omega)]; exact h.right i j hi hij hj
  · rw [hk _ (by omega) (by omega), hk _ (by omega) (by omega)]; exact h.cross p q hp hp2 hq hq2
theorem MIn.none {a m b : Nat} {d : Array Nat} (h : MIn lt a m b d) (hm : m ≤ a ∨ b ≤ m) : MOut lt a b d d := by
  have h1 := h.am
  have h2 := h.mb
  refine ⟨permIn_refl _ _ _, ?_⟩
  rcases hm with hm | hm
  · have e : m = a := by omega
    subst e
    exact h.right
  · have e : m = b := by omega
    subst e
    exact h.left
theorem MIn.one {a m b i : Nat} {d d' : Array Nat} (hO : SWO lt) (h : MIn lt a m b d) (hm : m = a + 1) (hi1 : m ≤ i) (hi2 : i ≤ b) (hlo : ∀ p, m ≤ p → p < i → lt d[p]! d[a]! = true) (hhi : ∀ p, i ≤ p → p < b → lt d[p]! d[a]! = false)
    (hp : PermIn a b d d') (h1 : ∀ p, a ≤ p → p < i - 1 → d'[p]! = d[p + 1]!) (h2 : d'[i - 1]! = d[a]!) (h3 : ∀ p, i ≤ p → d'[p]! = d[p]!) : MOut lt a b d d' := by
  have hx : ∀ p, m ≤ p → p < b → lex lt d[p]! d[a]! = lt d[p]! d[a]! := fun p hp1 hp2 => lex_up (h.cross a p (Nat.le_refl _) (by omega) hp1 hp2)
  refine ⟨hp, fun p q hap hpq hqb => ?_⟩
  by_cases hq : i ≤ q
  · rw [h3 q hq]
    by_cases hp1 : i ≤ p
    · rw [h3 p hp1]; exact h.right p q (by omega) hpq hqb
    · by_cases hp2 : p = i - 1
      · rw [hp2, h2, hx q (by omega) hqb]; exact hhi q hq hqb
      · rw [h1 p hap (by omega)]; exact h.right (p + 1) q (by omega) (by omega) hqb
  · rw [h1 p hap (by omega)]
    by_cases hq2 : q = i - 1
    · rw [hq2, h2]
      refine lex_asymm hO ?_
      rw [hx _ (by omega) (by omega)]
      exact hlo _ (by omega) (by omega)
    · rw [h1 q (by omega) (by omega)]; exact h.right (p + 1) (q + 1) (by omega) (by omega) (by omega)
theorem MIn.last {a m b i : Nat} {d d' : Array Nat} (hO : SWO lt) (h : MIn lt a m b d) (hm : b = m + 1) (hi1 : a ≤ i) (hi2 : i ≤ m) (hlo : ∀ p, a ≤ p → p < i → lt d[m]! d[p]! = false) (hhi : ∀ p, i ≤ p → p < m → lt d[m]! d[p]! = true)
    (hp : PermIn a b d d') (h1 : ∀ p, p < i → d'[p]! = d[p]!) (h2 : d'[i]! = d[m]!) (h3 : ∀ p, i < p → p ≤ m → d'[p]! = d[p - 1]!) : MOut lt a b d d' := by
  have hx : ∀ p, a ≤ p → p < m → lex lt d[m]! d[p]! = lt d[m]! d[p]! := fun p hp1 hp2 => lex_up (h.cross p m hp1 hp2 (Nat.le_refl _) (by omega))
  refine ⟨hp, fun p q hap hpq hqb => ?_⟩
  by_cases hp1 : p < i
  · rw [h1 p hp1]
    by_cases hq1 : q < i
    · rw [h1 q hq1]; exact h.left p q hap hpq (by omega)
    · by_cases hq2 : q = i
      · rw [hq2, h2, hx p hap (by omega)]; exact hlo p hap hp1
      · rw [h3 q (by omega) (by omega)]; exact h.left p (q - 1) hap (by omega) (by omega)
  · rw [h3 q (by omega) (by omega)]
    by_cases hp2 : p = i
    · rw [hp2, h2]
      refine lex_asymm hO ?_
      rw [hx _ (by omega) (by omega)]
      exact hhi _ (by omega) (by omega)
    · rw [h3 p (by omega) (by omega)]; exact h.left (p - 1) (q - 1) (by omega) (by omega) (by omega)

/-! Exchanges of parts, and rotations. -/
def exchAt (a b n : Nat) (d : Array Nat) (p : Nat) : Nat := if a ≤ p ∧ p < a + n then d[p + (b - a)]! else if b ≤ p ∧ p < b + n then d[p - (b - a)]! else d[p]!
def rotAt (a m b : Nat) (d : Array Nat) (p : Nat) : Nat := if a ≤ p ∧ p < a + (b - m) then d[p + (m - a)]! else if a + (b - m) ≤ p ∧ p < b then d[p - (b - m)]! else d[p]!
theorem exchAt_none (a b : Nat) (d : Array Nat) (p : Nat) : exchAt a b 0 d p = d[p]! := by
  unfold exchAt; rw [if_neg (by omega), if_neg (by omega)]
theorem exchAt_step {a b n k : Nat} {d dk : Array Nat} (hab : a + n ≤ b) (hk : k < n) (hbk : b + n ≤ dk.size) (h : ∀ p, dk[p]! = exchAt a b k d p) (p : Nat) : (swp dk (a + k) (b + k))[p]! = exchAt a b (k + 1) d p := by
  rw [swp_get dk (by omega) (by omega)]
  unfold exchAt at *
  by_cases h1 : p = b + k
  · subst h1
    rw [if_pos rfl, h, if_neg (by omega), if_neg (by omega), if_neg (by omega), if_pos (by omega)]
    congr 1; omega
  · rw [if_neg h1]
    by_cases h2 : p = a + k
    · subst h2
      rw [if_pos rfl, h, if_neg (by omega), if_neg (by omega), if_pos (by omega)]
      congr 1; omega
    · rw [if_neg h2, h]
      by_cases h3 : a ≤ p ∧ p < a + k
      · rw [if_pos h3, if_pos (show a ≤ p ∧ p < a + (k + 1) by omega)]
      · rw [if_neg h3, if_neg (show ¬ (a ≤ p ∧ p < a + (k + 1)) by omega)]
        by_cases h4 : b ≤ p ∧ p < b + k
        · rw [if_pos h4, if_pos (show b ≤ p ∧ p < b + (k + 1) by omega)]
        · rw [if_neg h4, if_neg (show ¬ (b ≤ p ∧ p < b + (k + 1)) by omega)]
theorem rot_left {m i j : Nat} {d d' : Array Nat} (hj : 0 < j) (hij : j < i) (him : i ≤ m) (h : ∀ p, d'[p]! = exchAt (m - i) m j d p) (p : Nat) : rotAt (m - (i - j)) m (m + j) d' p = rotAt (m - i) m (m + j) d p := by
  unfold rotAt
  simp only [h, exchAt]
  repeat' split
  all_goals first | rfl | (exfalso; omega) | (congr 1; omega)
theorem rot_right {m i j : Nat} {d d' : Array Nat} (hi : 0 < i) (hij : i < j) (him : i ≤ m) (h : ∀ p, d'[p]! = exchAt (m - i) (m + j - i) i d p) (p : Nat) : rotAt (m - i) m (m + (j - i)) d' p = rotAt (m - i) m (m + j) d p := by
  unfold rotAt
  simp only [h, exchAt]
  repeat' split
  all_goals first | rfl | (exfalso; omega) | (congr 1; omega)
theorem rot_end {m i : Nat} {d : Array Nat} (him : i ≤ m) (p : Nat) : exchAt (m - i) m i d p = rotAt (m - i) m (m + i) d p := by
  unfold exchAt rotAt
  repeat' split
  all_goals first | rfl | (exfalso; omega) | (congr 1; omega)
/-- Behind the rotation in the midst of a merge. -/
structure Mid (lt : Nat → Nat → Bool) (a s mid e b : Nat) (d d1 : Array Nat) : Prop where
  perm : PermIn a b d d1
  low : MIn lt a s mid d1
  high : MIn lt mid e b d1
  less : ∀ p q, a ≤ p → p < mid → mid ≤ q → q < b → lex lt d1[q]! d1[p]! = false
theorem MIn.mid {a m b s e mid : Nat} {d d1 : Array Nat} (hO : SWO lt) (h : MIn lt a m b d) (has : a ≤ s) (hsm : s ≤ m) (hme : m ≤ e) (heb : e ≤ b) (hse : s + e = mid + m)
    (hU : ∀ p q, a ≤ p → p < s → e ≤ q → q < b → lex lt d[p]! d[q]! = true) (hV : ∀ p q, s ≤ p → p < m → m ≤ q → q < e → lex lt d[q]! d[p]! = true) (hp : PermIn s e d d1) (hr : ∀ p, d1[p]! = rotAt s m e d p) : Mid lt a s mid e b d d1 := by
  have hle := h.le
  have r1 : ∀ p, p < s → d1[p]! = d[p]! := fun p hp => by rw [hr]; unfold rotAt; rw [if_neg (by omega), if_neg (by omega)]
  have r2 : ∀ p, s ≤ p → p < mid → d1[p]! = d[p + (m - s)]! := fun p h1 h2 => by rw [hr]; unfold rotAt; rw [if_pos (by omega)]
  have r3 : ∀ p, mid ≤ p → p < e → d1[p]! = d[p - (e - m)]! := fun p h1 h2 => by rw [hr]; unfold rotAt; rw [if_neg (by omega), if_pos (by omega)]
  have r4 : ∀ p, e ≤ p → d1[p]! = d[p]! := fun p hp => by rw [hr]; unfold rotAt; rw [if_neg (by omega), if_neg (by omega)]
  refine ⟨permIn_mono d d1 s e a b has heb hle hp, ⟨has, by omega, by rw [hp.1]; omega, fun p q h1 h2 h3 => ?_, fun p q h1 h2 h3 => ?_, fun p q h1 h2 h3 h4 => ?_⟩, ⟨by omega, heb, by rw [hp.1]; exact hle, fun p q h1 h2 h3 => ?_, fun p q h1 h2 h3 => ?_, fun p q h1 h2 h3 h4 => ?_⟩, fun p q h1 h2 h3 h4 => ?_⟩
  · rw [r1 p (by omega), r1 q (by omega)]; exact h.left p q h1 h2 (by omega)
  · rw [r2 p (by omega) (by omega), r2 q (by omega) (by omega)]; exact h.right _ _ (by omega) (by omega) (by omega)
  · rw [r1 p (by omega), r2 q (by omega) (by omega)]; exact h.cross _ _ (by omega) (by omega) (by omega) (by omega)
  · rw [r3 p (by omega) (by omega), r3 q (by omega) (by omega)]; exact h.left _ _ (by omega) (by omega) (by omega)
  · rw [r4 p (by omega), r4 q (by omega)]; exact h.right _ _ (by omega) (by omega) (by omega)
  · rw [r3 p (by omega) (by omega), r4 q (by omega)]; exact h.cross _ _ (by omega) (by omega) (by omega) (by omega)
  · by_cases hp1 : p < s
    · rw [r1 p hp1]
      by_cases hq1 : q < e
      · rw [r3 q h3 hq1]; exact h.left _ _ (by omega) (by omega) (by omega)
      · rw [r4 q (by omega)]; exact lex_asymm hO (hU p q h1 hp1 (by omega) h4)
    · rw [r2 p (by omega) h2]
      by_cases hq1 : q < e
      · rw [r3 q h3 hq1]; exact lex_asymm hO (hV _ _ (by omega) (by omega) (by omega) (by omega))
      · rw [r4 q (by omega)]; exact h.right _ _ (by omega) (by omega) (by omega)
theorem Mid.done {a s mid e b : Nat} {d d1 d2 d3 : Array Nat} (h : Mid lt a s mid e b d d1) (h2 : MOut lt a mid d1 d2) (h3 : MOut lt mid b d2 d3) : MOut lt a b d d3 := by
  have x1 := h.low.am
  have x2 := h.low.mb
  have x3 := h.high.am
  have x4 := h.high.mb
  have x5 := h.high.le
  have hs2 := h2.1.1
  have hs3 := h3.1.1
  refine ⟨permIn_trans _ _ _ _ _ h.perm (permIn_trans _ _ _ _ _ (permIn_mono d1 d2 a mid a b (Nat.le_refl _) (by omega) x5 h2.1) (permIn_mono d2 d3 mid b a b (by omega) (Nat.le_refl _) (by omega) h3.1)), fun p q hap hpq hqb => ?_⟩
  by_cases hq : q < mid
  · rw [h3.1.2.1 p (.inl (by omega)), h3.1.2.1 q (.inl hq)]; exact h2.2 p q hap hpq hq
  · by_cases hp : mid ≤ p
    · exact h3.2 p q hp hpq hqb
    · rw [h3.1.2.1 p (.inl (by omega))]
      refine permIn_all d2 d3 mid b (fun y => lex lt y d2[p]! = false) (by omega) h3.1 (fun r hr1 hr2 => ?_) q (by omega) hqb
      rw [h2.1.2.1 r (.inr hr1)]
      exact permIn_all d1 d2 a mid (fun x => lex lt d1[r]! x = false) (by omega) h2.1 (fun t ht1 ht2 => h.less t r ht1 ht2 hr1 hr2) p hap (by omega)
theorem Mid.high' {a s mid e b : Nat} {d d1 d2 : Array Nat} (h : Mid lt a s mid e b d d1) (h2 : MOut lt a mid d1 d2) : MIn lt mid e b d2 := h.high.keep h2.1.1 fun p h1 _ => h2.1.2.1 p (.inr h1)

/-! Where the two parts are cut. -/
/-- Up to s each of the left is ahead of its fellow on the right, from r on it isn't. -/
def CutRel (lt : Nat → Nat → Bool) (a m b n : Nat) (d : Array Nat) (s r : Nat) : Prop :=
  (∀ p, a ≤ p → p < s → p < m → m ≤ n - 1 - p → n - 1 - p < b → lt d[n - 1 - p]! d[p]! = false) ∧ (∀ p, r ≤ p → p < m → m ≤ n - 1 - p → n - 1 - p < b → lt d[n - 1 - p]! d[p]! = true)
theorem MIn.cut_lo {a m b n s r c : Nat} {d : Array Nat} (hO : SWO lt) (h : MIn lt a m b d) (hr : CutRel lt a m b n d s r) (hc1 : a ≤ c) (hc2 : c < m) (hc3 : m ≤ n - 1 - c) (hc4 : n - 1 - c < b) (hl : lt d[n - 1 - c]! d[c]! = false) : CutRel lt a m b n d (c + 1) r := by
  have hS := lex_swo hO
  refine ⟨fun p h1 h2 h3 h4 h5 => ?_, hr.2⟩
  have hx : ∀ p q, a ≤ p → p < m → m ≤ q → q < b → lex lt d[q]! d[p]! = lt d[q]! d[p]! := fun p q k1 k2 k3 k4 => lex_up (h.cross p q k1 k2 k3 k4)
  by_cases hpc : p = c
  · rw [hpc]; exact hl
  · rw [← hx p _ h1 h3 h4 h5]
    rw [← hx c _ hc1 hc2 hc3 hc4] at hl
    have k1 := h.right (n - 1 - c) (n - 1 - p) hc3 (by omega) h5
    have k2 := h.left p c h1 (by omega) hc2
    exact hS.ntrans _ _ _ k1 (hS.ntrans _ _ _ hl k2)
theorem MIn.cut_hi {a m b n s r c : Nat} {d : Array Nat} (hO : SWO lt) (h : MIn lt a m b d) (hr : CutRel lt a m b n d s r) (hc1 : a ≤ c) (hc2 : c < m) (hc3 : m ≤ n - 1 - c) (hc4 : n - 1 - c < b) (hl : lt d[n - 1 - c]! d[c]! = true) : CutRel lt a m b n d s c := by
  have hS := lex_swo hO
  refine ⟨hr.1, fun p h1 h3 h4 h5 => ?_⟩
  have hx : ∀ p q, a ≤ p → p < m → m ≤ q → q < b → lex lt d[q]! d[p]! = lt d[q]! d[p]! := fun p q k1 k2 k3 k4 => lex_up (h.cross p q k1 k2 k3 k4)
  by_cases hpc : p = c
  · rw [hpc]; exact hl
  · rw [← hx p _ (by omega) h3 h4 h5]
    rw [← hx c _ hc1 hc2 hc3 hc4] at hl
    have k1 := h.right (n - 1 - p) (n - 1 - c) h4 (by omega) hc4
    have k2 := h.left c p hc1 (by omega) h3
    cases e : lex lt d[n - 1 - p]! d[p]! with
    | true => rfl
    | false =>
      have := hS.ntrans _ _ _ k1 (hS.ntrans _ _ _ e k2)
      rw [this] at hl; cases hl
theorem MIn.cut {a m b mid s : Nat} {d : Array Nat} (hO : SWO lt) (h : MIn lt a m b d) (hmid : mid = (a + b) / 2) (hr : CutRel lt a m b (mid + m) d s s) (h1 : m ≤ mid → a ≤ s ∧ s ≤ m) (h2 : mid < m → mid + m - b ≤ s ∧ s ≤ mid) :
    (∀ p q, a ≤ p → p < s → mid + m - s ≤ q → q < b → lex lt d[p]! d[q]! = true) ∧ (∀ p q, s ≤ p → p < m → m ≤ q → q < mid + m - s → lex lt d[q]! d[p]! = true) := by
  have hS := lex_swo hO
  have x1 := h.am
  have x2 := h.mb
  have hx : ∀ p q, a ≤ p → p < m → m ≤ q → q < b → lex lt d[q]! d[p]! = lt d[q]! d[p]! := fun p q k1 k2 k3 k4 => lex_up (h.cross p q k1 k2 k3 k4)
  constructor
  · intro p q hp1 hp2 hq1 hq2
    have c1 : s - 1 < m := by omega
    have e1 : mid + m - 1 - (s - 1) = mid + m - s := by omega
    have k0 := hr.1 (s - 1) (by omega) (by omega) c1 (by omega) (by omega)
    rw [e1] at k0
    rw [← hx (s - 1) (mid + m - s) (by omega) c1 (by omega) (by omega)] at k0
    have k1 : lex lt d[q]! d[mid + m - s]! = false := by
      by_cases hq : q = mid + m - s
      · rw [hq]; exact hS.irrefl _
      · exact h.right _ _ (by omega) (by omega) hq2
    have k2 : lex lt d[s - 1]! d[p]! = false := by
      by_cases hq : p = s - 1
      · rw [hq]; exact hS.irrefl _
      · exact h.left _ _ hp1 (by omega) c1
    have k3 : lex lt d[q]! d[p]! = false := hS.ntrans _ _ _ k1 (hS.ntrans _ _ _ k0 k2)
    rcases lex_or k3 with e | e
    · have := h.cross p q hp1 (by omega) (by omega) hq2; omega
    · exact e
  · intro p q hp1 hp2 hq1 hq2
    have e1 : mid + m - 1 - s = mid + m - s - 1 := by omega
    have k0 := hr.2 s (by omega) (by omega) (by omega) (by omega)
    rw [← hx s _ (by omega) (by omega) (by omega) (by omega), e1] at k0
    have k1 : lex lt d[mid + m - s - 1]! d[q]! = false := by
      by_cases hq : q = mid + m - s - 1
      · rw [← hq]; exact hS.irrefl _
      · exact h.right _ _ hq1 (by omega) (by omega)
    have k2 : lex lt d[p]! d[s]! = false := by
      by_cases hq : p = s
      · rw [hq]; exact hS.irrefl _
      · exact h.left _ _ (by omega) (by omega) hp2
    cases e : lex lt d[q]! d[p]! with
    | true => rfl
    | false => rw [hS.ntrans _ _ _ k1 (hS.ntrans _ _ _ e k2)] at k0; cases k0
end
end Go.Proofs.Ythjblamfkfclhaa
