/- The order of items: by counts, then by texts. -/
import Derived.Test.YtbnekkcjkdghcaaItem
import Derived.Sort.Statements
namespace Go.Proofs.Ytbnekkcjkdghcaa
open Go.RowKit

set_option maxRecDepth 100000 in
theorem cmp_self : ∀ l : List UInt8, Lib.compareBytes l l = 0
  | [] => rfl
  | a :: r => by unfold Lib.compareBytes; rw [if_neg (UInt8.lt_irrefl a), if_neg (UInt8.lt_irrefl a)]; exact cmp_self r
set_option maxRecDepth 100000 in
theorem cmp_zero : ∀ a b : List UInt8, Lib.compareBytes a b = 0 → a = b
  | [], [], _ => rfl
  | [], _ :: _, h => by simp [Lib.compareBytes] at h
  | _ :: _, [], h => by simp [Lib.compareBytes] at h
  | a :: r, b :: s, h => by
    unfold Lib.compareBytes at h
    split at h
    · simp at h
    · split at h
      · simp at h
      · rename_i h1 h2
        have e : a = b := UInt8.le_antisymm (UInt8.not_lt.1 h2) (UInt8.not_lt.1 h1)
        rw [e, cmp_zero r s h]
section
variable {J : List Joint}
set_option maxRecDepth 100000 in
theorem tcmp_lt {a b : Int} : tcmp J a b < 0 ↔ ahead (txtOf J a) (txtOf J b) = true := by
  unfold ahead
  rw [← before_cmp]
  exact (decide_eq_true_iff).symm
set_option maxRecDepth 100000 in
theorem tcmp_eq {a b : Int} : tcmp J a b = 0 ↔ txtOf J a = txtOf J b :=
  ⟨fun h => bs_inj (cmp_zero _ _ h), fun h => by unfold tcmp; rw [h]; exact cmp_self _⟩
/-- Its left text is ahead, or that is the same and its right one is. -/
def AheadP (J : List Joint) (a b : Int × Int) : Prop := ahead (txtOf J a.1) (txtOf J b.1) = true ∨ (txtOf J a.1 = txtOf J b.1 ∧ ahead (txtOf J a.2) (txtOf J b.2) = true)
set_option maxRecDepth 100000 in
theorem ahead_iff {a b : Int × Int} : aheadOf J a b = true ↔ AheadP J a b := by
  unfold aheadOf pcmp AheadP
  rw [decide_eq_true_iff]
  by_cases h : tcmp J a.1 b.1 = 0
  · rw [if_pos h, tcmp_lt]
    have e := tcmp_eq.1 h
    constructor
    · exact fun k => .inr ⟨e, k⟩
    · rintro (k | ⟨_, k⟩)
      · rw [e, ahead_irrefl] at k; cases k
      · exact k
  · rw [if_neg h, tcmp_lt]
    constructor
    · exact .inl
    · rintro (k | ⟨k, _⟩)
      · exact k
      · exact absurd (tcmp_eq.2 k) h
set_option maxRecDepth 100000 in
theorem better_iff {x y : Item} : betterOf J x y = true ↔ y.2.2 < x.2.2 ∨ (x.2.2 = y.2.2 ∧ AheadP J (x.1, x.2.1) (y.1, y.2.1)) := by
  rw [← ahead_iff]
  unfold betterOf icmp aheadOf cmpI
  rw [decide_eq_true_iff, decide_eq_true_iff]
  by_cases h1 : y.2.2 < x.2.2
  · simp [h1]
  · by_cases h2 : x.2.2 < y.2.2
    · simp [h1, h2]; omega
    · have e : x.2.2 = y.2.2 := by omega
      simp [e]
/-- The same count, and the same texts. -/
def AlikeI (J : List Joint) (x y : Item) : Prop := x.2.2 = y.2.2 ∧ txtOf J x.1 = txtOf J y.1 ∧ txtOf J x.2.1 = txtOf J y.2.1
set_option maxRecDepth 100000 in
theorem aheadP_irrefl (a : Int × Int) : ¬ AheadP J a a := by
  rintro (h | ⟨_, h⟩) <;> · rw [ahead_irrefl] at h; cases h
set_option maxRecDepth 100000 in
theorem aheadP_trans {a b c : Int × Int} (h : AheadP J a b) (k : AheadP J b c) : AheadP J a c := by
  rcases h with h | ⟨h1, h2⟩ <;> rcases k with k | ⟨k1, k2⟩
  · exact .inl (ahead_trans h k)
  · rw [k1] at h; exact .inl h
  · rw [← h1] at k; exact .inl k
  · exact .inr ⟨h1.trans k1, ahead_trans h2 k2⟩
set_option maxRecDepth 100000 in
theorem aheadP_total (a b : Int × Int) : AheadP J a b ∨ AheadP J b a ∨ (txtOf J a.1 = txtOf J b.1 ∧ txtOf J a.2 = txtOf J b.2) := by
  by_cases h1 : txtOf J a.1 = txtOf J b.1
  · by_cases h2 : txtOf J a.2 = txtOf J b.2
    · exact .inr (.inr ⟨h1, h2⟩)
    · rcases ahead_total h2 with k | k
      · exact .inl (.inr ⟨h1, k⟩)
      · exact .inr (.inl (.inr ⟨h1.symm, k⟩))
  · rcases ahead_total h1 with k | k
    · exact .inl (.inl k)
    · exact .inr (.inl (.inl k))
set_option maxRecDepth 100000 in
theorem better_irrefl (x : Item) : betterOf J x x = false := by
  rw [Bool.eq_false_iff]
  intro h
  rcases better_iff.1 h with h | ⟨_, h⟩
  · omega
  · exact aheadP_irrefl _ h
set_option maxRecDepth 100000 in
theorem better_trans {x y z : Item} (h : betterOf J x y = true) (k : betterOf J y z = true) : betterOf J x z = true := by
  rw [better_iff] at *
  rcases h with h | ⟨h1, h2⟩ <;> rcases k with k | ⟨k1, k2⟩
  · exact .inl (by omega)
  · exact .inl (by omega)
  · exact .inl (by omega)
  · exact .inr ⟨h1.trans k1, aheadP_trans h2 k2⟩
set_option maxRecDepth 100000 in
theorem better_asymm {x y : Item} (h : betterOf J x y = true) : betterOf J y x = false := by
  cases k : betterOf J y x with
  | false => rfl
  | true => have := better_trans h k; rw [better_irrefl] at this; cases this
set_option maxRecDepth 100000 in
theorem better_total {x y : Item} (h : betterOf J x y = false) : betterOf J y x = true ∨ AlikeI J x y := by
  rw [Bool.eq_false_iff, ne_eq, better_iff] at h
  rw [better_iff]
  by_cases h1 : x.2.2 < y.2.2
  · exact .inl (.inl h1)
  · have e : x.2.2 = y.2.2 := by
      by_cases h2 : y.2.2 < x.2.2
      · exact absurd (.inl h2) h
      · omega
    rcases aheadP_total (J := J) (x.1, x.2.1) (y.1, y.2.1) with k | k | ⟨k1, k2⟩
    · exact absurd (.inr ⟨e, k⟩) h
    · exact .inl (.inr ⟨e.symm, k⟩)
    · exact .inr ⟨e, k1, k2⟩
set_option maxRecDepth 100000 in
theorem better_left {x y z : Item} (h : AlikeI J x y) : betterOf J x z = betterOf J y z := by
  obtain ⟨h1, h2, h3⟩ := h
  rw [Bool.eq_iff_iff, better_iff, better_iff]
  unfold AheadP
  simp only [h1, h2, h3]
set_option maxRecDepth 100000 in
theorem better_right {x y z : Item} (h : AlikeI J x y) : betterOf J z x = betterOf J z y := by
  obtain ⟨h1, h2, h3⟩ := h
  rw [Bool.eq_iff_iff, better_iff, better_iff]
  unfold AheadP
  simp only [h1, h2, h3]
set_option maxRecDepth 100000 in
theorem better_swo : Go.Sort.SWO (betterOf J) where
  irrefl := better_irrefl
  trans _ _ _ h k := better_trans h k
  ntrans x y z h k := by
    rcases better_total h with h1 | h1
    · rcases better_total k with k1 | k1
      · exact better_asymm (better_trans k1 h1)
      · rw [better_right k1] at h; exact h
    · rw [← better_left h1] at k; exact k
set_option maxRecDepth 100000 in
/-- Two items of different pairs of symbols that are there: one is better. -/
theorem better_one (hg : Good J) {x y : Item} (h1 : thereOf J x.1 = true) (h2 : thereOf J x.2.1 = true) (h3 : thereOf J y.1 = true) (h4 : thereOf J y.2.1 = true) (hne : ¬ (x.1 = y.1 ∧ x.2.1 = y.2.1)) (h : betterOf J x y = false) : betterOf J y x = true := by
  rcases better_total h with k | ⟨_, k1, k2⟩
  · exact k
  · exact absurd ⟨txt_inj hg h1 h3 k1, txt_inj hg h2 h4 k2⟩ hne
end
end Go.Proofs.Ytbnekkcjkdghcaa
