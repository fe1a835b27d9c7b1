/- The stable sort's plain half: blocks that are sorted, and merged two by two. -/
import Derived.Test.YthjblamfkfclhaaStable
namespace Go.Proofs.Ythjblamfkfclhaa
open Go.Sort
section
variable {lt : Nat → Nat → Bool} {d d' : Array Nat} {a m b n s : Nat}
/-- The places from a to b are sorted among themselves. -/
def Blk (lt : Nat → Nat → Bool) (a b : Nat) (d : Array Nat) : Prop := SortedIn (lex lt) a b d ∧ ∀ p, a ≤ p → p < b → a ≤ d[p]! ∧ d[p]! < b
theorem Blk.keep (h : Blk lt a b d) (hk : ∀ p, a ≤ p → p < b → d'[p]! = d[p]!) : Blk lt a b d' := by
  refine ⟨fun i j hi hij hj => ?_, fun p hp1 hp2 => ?_⟩
  · rw [hk _ (by omega) (by omega), hk _ (by omega) (by omega)]; exact h.1 i j hi hij hj
  · rw [hk _ hp1 hp2]; exact h.2 p hp1 hp2
theorem Blk.sorted (hr : ∀ p, a ≤ p → p < b → a ≤ d[p]! ∧ d[p]! < b) (hb : b ≤ d.size) (h : MOut lt a b d d') : Blk lt a b d' :=
  ⟨h.2, permIn_all d d' a b (fun x => a ≤ x ∧ x < b) hb h.1 hr⟩
theorem Blk.two (h1 : Blk lt a m d) (h2 : Blk lt m b d) (ham : a ≤ m) (hmb : m ≤ b) (hb : b ≤ d.size) : MIn lt a m b d :=
  ⟨ham, hmb, hb, h1.1, h2.1, fun p q k1 k2 k3 k4 => by have := (h1.2 p k1 k2).2; have := (h2.2 q k3 k4).1; omega⟩
theorem Blk.merged (h1 : Blk lt a m d) (h2 : Blk lt m b d) (ham : a ≤ m) (hmb : m ≤ b) (hb : b ≤ d.size) (h : MOut lt a b d d') : Blk lt a b d' :=
  Blk.sorted (fun p k1 k2 => by
    by_cases hp : p < m
    · have := h1.2 p k1 hp; omega
    · have := h2.2 p (by omega) k2; omega) hb h
/-- d is a permutation of the places, whose blocks of s are sorted. -/
def AllBlk (lt : Nat → Nat → Bool) (d0 : Array Nat) (n s : Nat) (d : Array Nat) : Prop := PermIn 0 n d0 d ∧ ∀ t, t * s < n → Blk lt (t * s) (min (t * s + s) n) d
/-- The first u blocks are; what is behind them is as it was. -/
def FirstBlk (lt : Nat → Nat → Bool) (d0 : Array Nat) (n s u : Nat) (d : Array Nat) : Prop := PermIn 0 n d0 d ∧ (∀ t, t < u → Blk lt (t * s) (t * s + s) d) ∧ ∀ p, u * s ≤ p → p < n → d[p]! = p
theorem mul_next (u s : Nat) : (u + 1) * s = u * s + s := Nat.succ_mul u s
theorem mul_below {t u s : Nat} (h : t < u) : t * s + s ≤ u * s := by
  have := Nat.mul_le_mul_right s (show t + 1 ≤ u from h)
  rwa [mul_next] at this
theorem firstBlk_start (h : ∀ p, p < n → d[p]! = p) : FirstBlk lt d n s 0 d := ⟨permIn_refl _ _ _, fun _ ht => absurd ht (Nat.not_lt_zero _), fun p _ hp => h p hp⟩
theorem firstBlk_up {d0 : Array Nat} {u : Nat} (h : FirstBlk lt d0 n s u d) : ∀ p q, u * s ≤ p → p < q → q < n → d[p]! < d[q]! := fun p q h1 h2 h3 => by
  rw [h.2.2 p h1 (by omega), h.2.2 q (by omega) h3]; exact h2
theorem firstBlk_step {d0 : Array Nat} {u : Nat} (h : FirstBlk lt d0 n s u d) (hn : u * s + s ≤ n) (hs : n ≤ d.size) (ho : MOut lt (u * s) (u * s + s) d d') : FirstBlk lt d0 n s (u + 1) d' := by
  obtain ⟨h1, h2, h3⟩ := h
  refine ⟨permIn_trans _ _ _ _ _ h1 (permIn_mono d d' (u * s) (u * s + s) 0 n (Nat.zero_le _) hn hs ho.1), fun t ht => ?_, fun p hp1 hp2 => ?_⟩
  · by_cases e : t = u
    · subst e
      exact Blk.sorted (fun p k1 k2 => by rw [h3 p k1 (by omega)]; exact ⟨k1, k2⟩) (by omega) ho
    · have hb := mul_below (s := s) (show t < u by omega)
      exact (h2 t (by omega)).keep fun p k1 k2 => ho.1.2.1 p (.inl (by omega))
  · rw [mul_next] at hp1
    rw [ho.1.2.1 p (.inr hp1)]
    exact h3 p (by omega) hp2
theorem firstBlk_all {d0 : Array Nat} {u : Nat} (h : FirstBlk lt d0 n s u d) (hu : u * s ≤ n) (hn : n < u * s + s) (hs : n ≤ d.size) (ho : MOut lt (u * s) n d d') : AllBlk lt d0 n s d' := by
  obtain ⟨h1, h2, h3⟩ := h
  refine ⟨permIn_trans _ _ _ _ _ h1 (permIn_mono d d' (u * s) n 0 n (Nat.zero_le _) (Nat.le_refl _) hs ho.1), fun t ht => ?_⟩
  by_cases e : t < u
  · have hb := mul_below (s := s) e
    rw [Nat.min_eq_left (by omega)]
    exact (h2 t e).keep fun p k1 k2 => ho.1.2.1 p (.inl (by omega))
  · have e2 : t = u := by
      by_cases e3 : u < t
      · have := mul_below (s := s) e3; omega
      · omega
    subst e2
    rw [Nat.min_eq_right (by omega)]
    exact Blk.sorted (fun p k1 k2 => by rw [h3 p k1 k2]; exact ⟨k1, k2⟩) hs ho
/-- The first u pairs of blocks are merged. -/
def HalfBlk (lt : Nat → Nat → Bool) (d0 : Array Nat) (n s u : Nat) (d : Array Nat) : Prop :=
  PermIn 0 n d0 d ∧ (∀ t, t < u → Blk lt (t * (2 * s)) (t * (2 * s) + 2 * s) d) ∧ ∀ t, u * (2 * s) ≤ t * s → t * s < n → Blk lt (t * s) (min (t * s + s) n) d
theorem two_mul_s (u s : Nat) : u * (2 * s) = (2 * u) * s := by rw [Nat.mul_comm 2 u, Nat.mul_assoc]
theorem halfBlk_start {d0 : Array Nat} (h : AllBlk lt d0 n s d) : HalfBlk lt d0 n s 0 d := ⟨h.1, fun _ ht => absurd ht (Nat.not_lt_zero _), fun t _ ht => h.2 t ht⟩
theorem halfBlk_left {d0 : Array Nat} {u : Nat} (h : HalfBlk lt d0 n s u d) (hn : u * (2 * s) < n) : Blk lt (u * (2 * s)) (min (u * (2 * s) + s) n) d := by
  have := h.2.2 (2 * u) (by rw [two_mul_s]; exact Nat.le_refl _) (by rw [← two_mul_s]; exact hn)
  rwa [← two_mul_s] at this
theorem halfBlk_right {d0 : Array Nat} {u : Nat} (h : HalfBlk lt d0 n s u d) (hn : u * (2 * s) + s < n) : Blk lt (u * (2 * s) + s) (min (u * (2 * s) + 2 * s) n) d := by
  have e : (2 * u + 1) * s = u * (2 * s) + s := by rw [mul_next, ← two_mul_s]
  have := h.2.2 (2 * u + 1) (by rw [e]; omega) (by rw [e]; exact hn)
  rw [e] at this
  rwa [show u * (2 * s) + s + s = u * (2 * s) + 2 * s by omega] at this
theorem halfBlk_in {d0 : Array Nat} {u : Nat} (h : HalfBlk lt d0 n s u d) (hs0 : 0 < s) (hn : u * (2 * s) + 2 * s ≤ n) (hs : n ≤ d.size) : MIn lt (u * (2 * s)) (u * (2 * s) + s) (u * (2 * s) + 2 * s) d := by
  have h1 := halfBlk_left h (by omega)
  have h2 := halfBlk_right h (by omega)
  rw [Nat.min_eq_left (by omega)] at h1 h2
  exact Blk.two h1 h2 (by omega) (by omega) (by omega)
theorem halfBlk_in2 {d0 : Array Nat} {u : Nat} (h : HalfBlk lt d0 n s u d) (hm : u * (2 * s) + s < n) (hn : n < u * (2 * s) + 2 * s) (hs : n ≤ d.size) : MIn lt (u * (2 * s)) (u * (2 * s) + s) n d := by
  have h1 := halfBlk_left h (by omega)
  have h2 := halfBlk_right h (by omega)
  rw [Nat.min_eq_left (by omega)] at h1
  rw [Nat.min_eq_right (by omega)] at h2
  exact Blk.two h1 h2 (by omega) (by omega) (by omega)
theorem halfBlk_step {d0 : Array Nat} {u : Nat} (h : HalfBlk lt d0 n s u d) (hs0 : 0 < s) (hn : u * (2 * s) + 2 * s ≤ n) (hs : n ≤ d.size) (ho : MOut lt (u * (2 * s)) (u * (2 * s) + 2 * s) d d') : HalfBlk lt d0 n s (u + 1) d' := by
  have h1 := halfBlk_left h (by omega)
  have h2 := halfBlk_right h (by omega)
  rw [Nat.min_eq_left (by omega)] at h1 h2
  refine ⟨permIn_trans _ _ _ _ _ h.1 (permIn_mono d d' _ _ 0 n (Nat.zero_le _) hn hs ho.1), fun t ht => ?_, fun t k1 k2 => ?_⟩
  · by_cases e : t = u
    · subst e
      exact Blk.merged h1 h2 (by omega) (by omega) (by omega) ho
    · have hb := mul_below (s := 2 * s) (show t < u by omega)
      exact (h.2.1 t (by omega)).keep fun p j1 j2 => ho.1.2.1 p (.inl (by omega))
  · rw [mul_next] at k1
    exact (h.2.2 t (by omega) k2).keep fun p j1 j2 => ho.1.2.1 p (.inr (by omega))
theorem halfBlk_all {d0 : Array Nat} {u : Nat} (h : HalfBlk lt d0 n s u d) (hu : u * (2 * s) ≤ n) (hn : n < u * (2 * s) + 2 * s) (hs : n ≤ d.size) (ho : if u * (2 * s) + s < n then MOut lt (u * (2 * s)) n d d' else d' = d) : AllBlk lt d0 n (2 * s) d' := by
  have last : ∀ t, t * (2 * s) < n → ¬ t < u → t = u := fun t h1 h2 => by
    by_cases e3 : u < t
    · have := mul_below (s := 2 * s) e3; omega
    · omega
  by_cases hm : u * (2 * s) + s < n
  · rw [if_pos hm] at ho
    have h1 := halfBlk_left h (by omega)
    have h2 := halfBlk_right h hm
    rw [Nat.min_eq_left (by omega)] at h1
    rw [Nat.min_eq_right (by omega)] at h2
    refine ⟨permIn_trans _ _ _ _ _ h.1 (permIn_mono d d' _ _ 0 n (Nat.zero_le _) (Nat.le_refl _) hs ho.1), fun t ht => ?_⟩
    by_cases e : t < u
    · have hb := mul_below (s := 2 * s) e
      rw [Nat.min_eq_left (by omega)]
      exact (h.2.1 t e).keep fun p j1 j2 => ho.1.2.1 p (.inl (by omega))
    · obtain rfl := last t ht e
      rw [Nat.min_eq_right (by omega)]
      exact Blk.merged h1 h2 (by omega) (by omega) hs ho
  · rw [if_neg hm] at ho
    subst ho
    refine ⟨h.1, fun t ht => ?_⟩
    by_cases e : t < u
    · have hb := mul_below (s := 2 * s) e
      rw [Nat.min_eq_left (by omega)]
      exact h.2.1 t e
    · obtain rfl := last t ht e
      have h1 := halfBlk_left h ht
      rw [Nat.min_eq_right (by omega)] at h1 ⊢
      exact h1
theorem allBlk_done {d0 : Array Nat} (h : AllBlk lt d0 n s d) (hn : n ≤ s) : MOut lt 0 n d0 d := by
  refine ⟨h.1, ?_⟩
  by_cases h0 : 0 < n
  · have := h.2 0 (by omega)
    rw [Nat.zero_mul, Nat.zero_add, Nat.min_eq_right hn] at this
    exact this.1
  · exact fun p q h1 h2 h3 => by omega
end
end Go.Proofs.Ythjblamfkfclhaa
