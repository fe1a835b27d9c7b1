/- Texts in one: Better, Ord, HeapP, EEnt, LzP. -/
import Derived.Test.YtnmacalbbmeedaaGreatQ23
import Derived.Sort.Statements
import Derived.Test.YtnmacalbbmeedaaGreatRows
import Derived.Test.YtnmacalbbmeedaaGreatQ14
/- pair.Better. -/
namespace Go.Proofs.YtnmacalbbmeedaaGreat
open Go.RowKit Go.Maps Go.Shelf
open Go.Sort (grow grow_empty grow_grow alloc_eq_grow heap_grow_old)

set_option maxRecDepth 100000 in
theorem Grown.drew {a b : World} (h : Grown a b) : Grown a b.drew := h.drewN 1
set_option maxRecDepth 100000 in
theorem Grown.cell {a b : World} (h : Grown a b) {c i : Nat} {u : Value} (hc : a.cell? ⟨c, i, none⟩ = some u) : b.cell? ⟨c, i, none⟩ = some u := (h.below.cell (show c < a.heap.size from by rw [← add_zero_off c i] at hc; exact block_of_cell hc)).trans hc
set_option maxRecDepth 100000 in
set_option maxHeartbeats 4000000 in
theorem better_any (K : Nat) (v : Value) (b : Option Nat) (J : List Joint) (x y : Item) (w : World) (h : Stab w K v b J) (hJ : J.length ≤ 1000000) (hx : FitsI x) (hy : FitsI y) :
    Calls Tryz.prog 70 #[.pointer (some ⟨K, 0, none⟩), itemV x, itemV y] w fun e w' => e = .returned (.bool (betterOf J x y)) ∧ Grown w w' := by
  have HX := Lib.hid hx
  have HY := Lib.hid hy
  obtain ⟨p, q, n⟩ := x
  obtain ⟨r, s, m⟩ := y
  unfold itemV betterOf
  simp only
  obtain ⟨wb, hwb⟩ : ∃ wb, wb = (w.alloc (.cells #[.int .i64 p, .int .i64 q, .int .i64 n] 79)).alloc (.cells #[.int .i64 r, .int .i64 s, .int .i64 m] 79) := ⟨_, rfl⟩
  have HGB : Hid (Grown w wb) := Lib.hid (by rw [hwb]; exact ((Grown.refl w).alloc _).alloc _)
  have HB := Lib.hid (h.grown HGB.out)
  have u0 : wb.cell? ⟨w.heap.size, 0, none⟩ = some (.int .i64 p) := by rw [hwb]; simp
  have u1 : wb.cell? ⟨w.heap.size, 1, none⟩ = some (.int .i64 q) := by rw [hwb]; simp
  have u2 : wb.cell? ⟨w.heap.size, 2, none⟩ = some (.int .i64 n) := by rw [hwb]; simp
  have v0 : wb.cell? ⟨w.heap.size + 1, 0, none⟩ = some (.int .i64 r) := by rw [hwb]; simp
  have v1 : wb.cell? ⟨w.heap.size + 1, 1, none⟩ = some (.int .i64 s) := by rw [hwb]; simp
  have v2 : wb.cell? ⟨w.heap.size + 1, 2, none⟩ = some (.int .i64 m) := by rw [hwb]; simp
  have hw' := hwb.symm
  clear h hwb hx hy
  generalize hz : icmp J (p, q, n) (r, s, m) = z
  have HZ := Lib.hid hz
  clear hz
  go_enter Tryz.func70, Tryz.ntmps70
  go_wp2_with fail
  go_region_held3 (fun w' => w'.cell? ⟨w.heap.size, 0, none⟩ = some (.int .i64 p) ∧ w'.cell? ⟨w.heap.size, 1, none⟩ = some (.int .i64 q) ∧ w'.cell? ⟨w.heap.size, 2, none⟩ = some (.int .i64 n) ∧ w'.cell? ⟨w.heap.size + 1, 0, none⟩ = some (.int .i64 r) ∧ w'.cell? ⟨w.heap.size + 1, 1, none⟩ = some (.int .i64 s) ∧ w'.cell? ⟨w.heap.size + 1, 2, none⟩ = some (.int .i64 m)) (first | exact ⟨u0, u1, u2, v0, v1, v2⟩ | exact ⟨e0, e1, e2, f0, f1, f2⟩ | exact ⟨g0, g1, g2, k0, k1, k2⟩) (first
    | (go_at_call 91
       refine (betterFirst_any K wb.drew).mono ?_
       rintro e w5 ⟨rfl, hw5⟩
       have HG5 : Hid (Grown wb w5) := Lib.hid (by rw [hw5]; exact (Grown.refl wb).drew.alloc _)
       have HE5 : Hid (Env w5 K v b J wb.drew.heap.size) := Lib.hid (by rw [hw5]; exact env_new (HB.out.grown (Grown.refl wb).drew) hJ)
       have e0 := HG5.out.cell u0
       have e1 := HG5.out.cell u1
       have e2 := HG5.out.cell u2
       have f0 := HG5.out.cell v0
       have f1 := HG5.out.cell v1
       have f2 := HG5.out.cell v2
       clear hw5
       unfold closV)
    | (go_at_call 112
       refine (icmp_any K v b J _ (p, q, n) (r, s, m) _ HE5.out HX.out HY.out).mono ?_
       rintro e w6 ⟨rfl, hg⟩
       have HG6 : Hid (Grown wb w6) := Lib.hid (HG5.out.trans hg)
       have g0 := HG6.out.cell u0
       have g1 := HG6.out.cell u1
       have g2 := HG6.out.cell u2
       have k0 := HG6.out.cell v0
       have k1 := HG6.out.cell v1
       have k2 := HG6.out.cell v2
       clear hg
       rw [HZ.out]))
  all_goals go_wp2
  all_goals go_ret
  all_goals exact ⟨rfl, HGB.out.trans HG6.out⟩
end Go.Proofs.YtnmacalbbmeedaaGreat
/- The order of items: by counts, then by texts. -/
namespace Go.Proofs.YtnmacalbbmeedaaGreat
open Go.RowKit

set_option maxRecDepth 100000 in
theorem cmp_self : ∀ l : List UInt8, Lib.compareBytes l l = 0
  | [] => rfl
  | a :: r => by unfold Lib.compareBytes; rw [if_neg (UInt8.lt_irrefl a), if_neg (UInt8.lt_irrefl a)]; exact cmp_self r
set_option maxRecDepth 100000 in
theorem cmp_zero : ∀ a b : List UInt8, Lib.compareBytes a b = 0 → a = b
  | [], [], _ => rfl
  | [], _ :: _, h => by simp [Lib.compareBytes] at h
  | _ :: _, [], h => by simp [Lib.compareBytes] at h
  | a :: r, b :: s, h => by
    unfold Lib.compareBytes at h
    split at h
    · simp at h
    · split at h
      · simp at h
      · rename_i h1 h2
        have e : a = b := UInt8.le_antisymm (UInt8.not_lt.1 h2) (UInt8.not_lt.1 h1)
        rw [e, cmp_zero r s h]
section
variable {J : List Joint}
set_option maxRecDepth 100000 in
theorem tcmp_lt {a b : Int} : tcmp J a b < 0 ↔ ahead (txtOf J a) (txtOf J b) = true := by
  unfold ahead
  rw [← before_cmp]
  exact (decide_eq_true_iff).symm
set_option maxRecDepth 100000 in
theorem tcmp_eq {a b : Int} : tcmp J a b = 0 ↔ txtOf J a = txtOf J b :=
  ⟨fun h => bs_inj (cmp_zero _ _ h), fun h => by unfold tcmp; rw [h]; exact cmp_self _⟩
/-- Its left text is ahead, or that is the same and its right one is. -/
def AheadP (J : List Joint) (a b : Int × Int) : Prop := ahead (txtOf J a.1) (txtOf J b.1) = true ∨ (txtOf J a.1 = txtOf J b.1 ∧ ahead (txtOf J a.2) (txtOf J b.2) = true)
set_option maxRecDepth 100000 in
theorem ahead_iff {a b : Int × Int} : aheadOf J a b = true ↔ AheadP J a b := by
  unfold aheadOf pcmp AheadP
  rw [decide_eq_true_iff]
  by_cases h : tcmp J a.1 b.1 = 0
  · rw [if_pos h, tcmp_lt]
    have e := tcmp_eq.1 h
    constructor
    · exact fun k => .inr ⟨e, k⟩
    · rintro (k | ⟨_, k⟩)
      · rw [e, ahead_irrefl] at k; cases k
      · exact k
  · rw [if_neg h, tcmp_lt]
    constructor
    · exact .inl
    · rintro (k | ⟨k, _⟩)
      · exact k
      · exact absurd (tcmp_eq.2 k) h
set_option maxRecDepth 100000 in
theorem better_iff {x y : Item} : betterOf J x y = true ↔ y.2.2 < x.2.2 ∨ (x.2.2 = y.2.2 ∧ AheadP J (x.1, x.2.1) (y.1, y.2.1)) := by
  rw [← ahead_iff]
  unfold betterOf icmp aheadOf cmpI
  rw [decide_eq_true_iff, decide_eq_true_iff]
  by_cases h1 : y.2.2 < x.2.2
  · simp [h1]
  · by_cases h2 : x.2.2 < y.2.2
    · simp [h1, h2]; omega
    · have e : x.2.2 = y.2.2 := by omega
      simp [e]
/-- The same count, and the same texts. -/
def AlikeI (J : List Joint) (x y : Item) : Prop := x.2.2 = y.2.2 ∧ txtOf J x.1 = txtOf J y.1 ∧ txtOf J x.2.1 = txtOf J y.2.1
set_option maxRecDepth 100000 in
theorem aheadP_irrefl (a : Int × Int) : ¬ AheadP J a a := by
  rintro (h | ⟨_, h⟩) <;> · rw [ahead_irrefl] at h; cases h
set_option maxRecDepth 100000 in
theorem aheadP_trans {a b c : Int × Int} (h : AheadP J a b) (k : AheadP J b c) : AheadP J a c := by
  rcases h with h | ⟨h1, h2⟩ <;> rcases k with k | ⟨k1, k2⟩
  · exact .inl (ahead_trans h k)
  · rw [k1] at h; exact .inl h
  · rw [← h1] at k; exact .inl k
  · exact .inr ⟨h1.trans k1, ahead_trans h2 k2⟩
set_option maxRecDepth 100000 in
theorem aheadP_total (a b : Int × Int) : AheadP J a b ∨ AheadP J b a ∨ (txtOf J a.1 = txtOf J b.1 ∧ txtOf J a.2 = txtOf J b.2) := by
  by_cases h1 : txtOf J a.1 = txtOf J b.1
  · by_cases h2 : txtOf J a.2 = txtOf J b.2
    · exact .inr (.inr ⟨h1, h2⟩)
    · rcases ahead_total h2 with k | k
      · exact .inl (.inr ⟨h1, k⟩)
      · exact .inr (.inl (.inr ⟨h1.symm, k⟩))
  · rcases ahead_total h1 with k | k
    · exact .inl (.inl k)
    · exact .inr (.inl (.inl k))
set_option maxRecDepth 100000 in
theorem better_irrefl (x : Item) : betterOf J x x = false := by
  rw [Bool.eq_false_iff]
  intro h
  rcases better_iff.1 h with h | ⟨_, h⟩
  · omega
  · exact aheadP_irrefl _ h
set_option maxRecDepth 100000 in
theorem better_trans {x y z : Item} (h : betterOf J x y = true) (k : betterOf J y z = true) : betterOf J x z = true := by
  rw [better_iff] at *
  rcases h with h | ⟨h1, h2⟩ <;> rcases k with k | ⟨k1, k2⟩
  · exact .inl (by omega)
  · exact .inl (by omega)
  · exact .inl (by omega)
  · exact .inr ⟨h1.trans k1, aheadP_trans h2 k2⟩
set_option maxRecDepth 100000 in
theorem better_asymm {x y : Item} (h : betterOf J x y = true) : betterOf J y x = false := by
  cases k : betterOf J y x with
  | false => rfl
  | true => have := better_trans h k; rw [better_irrefl] at this; cases this
set_option maxRecDepth 100000 in
theorem better_total {x y : Item} (h : betterOf J x y = false) : betterOf J y x = true ∨ AlikeI J x y := by
  rw [Bool.eq_false_iff, ne_eq, better_iff] at h
  rw [better_iff]
  by_cases h1 : x.2.2 < y.2.2
  · exact .inl (.inl h1)
  · have e : x.2.2 = y.2.2 := by
      by_cases h2 : y.2.2 < x.2.2
      · exact absurd (.inl h2) h
      · omega
    rcases aheadP_total (J := J) (x.1, x.2.1) (y.1, y.2.1) with k | k | ⟨k1, k2⟩
    · exact absurd (.inr ⟨e, k⟩) h
    · exact .inl (.inr ⟨e.symm, k⟩)
    · exact .inr ⟨e, k1, k2⟩
set_option maxRecDepth 100000 in
theorem better_left {x y z : Item} (h : AlikeI J x y) : betterOf J x z = betterOf J y z := by
  obtain ⟨h1, h2, h3⟩ := h
  rw [Bool.eq_iff_iff, better_iff, better_iff]
  unfold AheadP
  simp only [h1, h2, h3]
set_option maxRecDepth 100000 in
/-- Two items of different pairs of symbols that are there: one is better. -/
theorem better_one (hg : Good J) {x y : Item} (h1 : thereOf J x.1 = true) (h2 : thereOf J x.2.1 = true) (h3 : thereOf J y.1 = true) (h4 : thereOf J y.2.1 = true) (hne : ¬ (x.1 = y.1 ∧ x.2.1 = y.2.1)) (h : betterOf J x y = false) : betterOf J y x = true := by
  rcases better_total h with k | ⟨_, k1, k2⟩
  · exact k
  · exact absurd ⟨txt_inj hg h1 h3 k1, txt_inj hg h2 h4 k2⟩ hne
end
end Go.Proofs.YtnmacalbbmeedaaGreat
/- A heap as a plain list: what sinks, what rises, what is on top. -/
namespace Go.Proofs.YtnmacalbbmeedaaGreat

/-- 'Better' is an order in which things may be alike. -/
structure Ranks {α : Type} (bt : α → α → Bool) : Prop where
  asym : ∀ a b, bt a b = true → bt b a = false
  ntr : ∀ a b c, bt a b = false → bt b c = false → bt a c = false
set_option maxRecDepth 100000 in
theorem Ranks.irr {α : Type} {bt : α → α → Bool} (R : Ranks bt) (a : α) : bt a a = false := by
  cases h : bt a a with
  | false => rfl
  | true => rw [R.asym a a h] at h; cases h
variable {α : Type} {bt : α → α → Bool} {A : List α}
/-- Place i stands below place q. -/
def Kid (q i : Nat) : Prop := i = 2 * q + 1 ∨ i = 2 * q + 2
/-- From place k on nothing below a place is better than what stands there. -/
def HeapFrom (bt : α → α → Bool) (A : List α) (k : Nat) : Prop := ∀ i q (hi : i < A.length) (hq : q < A.length), Kid q i → k ≤ q → bt A[i] A[q] = false
/-- Two places changed. -/
def exch (A : List α) (i j : Nat) (hi : i < A.length) (hj : j < A.length) : List α := (A.set i A[j]).set j A[i]
set_option maxRecDepth 100000 in
theorem exch_len (A : List α) {i j : Nat} (hi : i < A.length) (hj : j < A.length) : (exch A i j hi hj).length = A.length := by simp [exch]
set_option maxRecDepth 100000 in
theorem exch_perm (A : List α) {i j : Nat} (hi : i < A.length) (hj : j < A.length) : (exch A i j hi hj).Perm A := List.set_set_perm hi hj
set_option maxRecDepth 100000 in
theorem exch_at (A : List α) {i j m : Nat} (hi : i < A.length) (hj : j < A.length) (hm : m < A.length) : (exch A i j hi hj)[m]'(by rw [exch_len]; exact hm) = if j = m then A[i] else if i = m then A[j] else A[m] := by
  unfold exch
  rw [List.getElem_set]
  split
  · rfl
  · rw [List.getElem_set]
/-- All is well from place k on, but perhaps what stands below place p. -/
structure Sk (bt : α → α → Bool) (A : List α) (k p : Nat) : Prop where
  a : ∀ i q (hi : i < A.length) (hq : q < A.length), Kid q i → k ≤ q → q ≠ p → bt A[i] A[q] = false
  b : ∀ i q (hi : i < A.length) (hq : q < A.length), Kid p i → Kid q p → k ≤ q → bt A[i] A[q] = false
set_option maxRecDepth 100000 in
theorem sk_start {k : Nat} (h : HeapFrom bt A (k + 1)) : Sk bt A k k where
  a := fun i q hi hq hk hkq hne => h i q hi hq hk (by omega)
  b := fun i q hi hq hk hk2 hkq => by unfold Kid at hk2; omega
set_option maxRecDepth 100000 in
theorem sk_step (R : Ranks bt) {k p c : Nat} (h : Sk bt A k p) (hp : p < A.length) (hc : c < A.length) (hk : Kid p c) (hkp : k ≤ p) (best : ∀ s (hs : s < A.length), Kid p s → bt A[s] A[c] = false) (hb : bt A[c] A[p] = true) : Sk bt (exch A c p hc hp) k c where
  a := fun i q hi hq hki hkq hne => by
    rw [exch_len] at hi hq
    rw [exch_at A hc hp hi, exch_at A hc hp hq]
    unfold Kid at hk hki
    by_cases e1 : p = q
    · subst e1
      rw [if_neg (by omega), if_pos rfl]
      by_cases e2 : c = i
      · subst e2
        rw [if_pos rfl]
        exact R.asym _ _ hb
      · rw [if_neg e2]
        exact best i hi hki
    · rw [if_neg (c := p = q) e1, if_neg (c := c = q) (fun e => hne e.symm)]
      by_cases e2 : p = i
      · subst e2
        rw [if_pos rfl]
        exact h.b c q hc hq hk hki hkq
      · rw [if_neg e2]
        by_cases e3 : c = i
        · subst e3
          exfalso; omega
        · rw [if_neg e3]
          exact h.a i q hi hq hki hkq (fun e => e1 e.symm)
  b := fun i q hi hq hki hkq hkk => by
    rw [exch_len] at hi hq
    rw [exch_at A hc hp hi, exch_at A hc hp hq]
    unfold Kid at hk hkq hki
    have e1 : q = p := by omega
    have hi' : i < A.length := hi
    subst e1
    rw [if_neg (by omega), if_neg (by omega), if_pos rfl]
    exact h.a i c hi' hc hki (by omega) (by omega)
set_option maxRecDepth 100000 in
theorem sk_stop {k p : Nat} (h : Sk bt A k p) (hp : ∀ i (hi : i < A.length) (hq : p < A.length), Kid p i → bt A[i] A[p] = false) : HeapFrom bt A k := by
  intro i q hi hq hki hkq
  by_cases e : q = p
  · subst e; exact hp i hi hq hki
  · exact h.a i q hi hq hki hkq e
/-- All is well, but perhaps what stands at place p below its parent. -/
structure Rk (bt : α → α → Bool) (A : List α) (p : Nat) : Prop where
  a : ∀ i q (hi : i < A.length) (hq : q < A.length), Kid q i → i ≠ p → bt A[i] A[q] = false
  b : ∀ i q (hi : i < A.length) (hq : q < A.length), Kid p i → Kid q p → bt A[i] A[q] = false
set_option maxRecDepth 100000 in
theorem rk_start (x : α) (h : HeapFrom bt A 0) : Rk bt (A ++ [x]) A.length where
  a := fun i q hi hq hk hne => by
    rw [List.length_append, List.length_singleton] at hi hq
    unfold Kid at hk
    rw [List.getElem_append_left (by omega), List.getElem_append_left (by omega)]
    exact h i q (by omega) (by omega) hk (Nat.zero_le _)
  b := fun i q hi hq hk hk2 => by
    rw [List.length_append, List.length_singleton] at hi
    unfold Kid at hk
    omega
set_option maxRecDepth 100000 in
theorem rk_step (R : Ranks bt) {p q : Nat} (h : Rk bt A p) (hp : p < A.length) (hq : q < A.length) (hk : Kid q p) (hb : bt A[p] A[q] = true) : Rk bt (exch A p q hp hq) q where
  a := fun i r hi hr hki hne => by
    rw [exch_len] at hi hr
    rw [exch_at A hp hq hi, exch_at A hp hq hr]
    unfold Kid at hk hki
    rw [if_neg (c := q = i) (fun e => hne e.symm)]
    by_cases e1 : p = i
    · subst e1
      have e2 : r = q := by omega
      subst e2
      rw [if_pos rfl, if_pos rfl]
      exact R.asym _ _ hb
    · rw [if_neg e1]
      by_cases e2 : q = r
      · subst e2
        rw [if_pos rfl]
        exact R.ntr _ _ _ (h.a i q hi hq hki (fun e => e1 e.symm)) (R.asym _ _ hb)
      · rw [if_neg e2]
        by_cases e3 : p = r
        · subst e3
          rw [if_pos rfl]
          exact h.b i q hi hq hki hk
        · rw [if_neg e3]
          exact h.a i r hi hr hki (fun e => e1 e.symm)
  b := fun i r hi hr hki hkr => by
    rw [exch_len] at hi hr
    rw [exch_at A hp hq hi, exch_at A hp hq hr]
    unfold Kid at hk hki hkr
    rw [if_neg (c := q = i) (by omega), if_neg (c := q = r) (by omega), if_neg (c := p = r) (by omega)]
    by_cases e1 : p = i
    · subst e1
      rw [if_pos rfl]
      exact h.a q r hq hr hkr (by omega)
    · rw [if_neg e1]
      exact R.ntr _ _ _ (h.a i q hi hq hki (fun e => e1 e.symm)) (h.a q r hq hr hkr (by omega))
set_option maxRecDepth 100000 in
theorem rk_top (h : Rk bt A 0) : HeapFrom bt A 0 := fun i q hi hq hk _ => h.a i q hi hq hk (by unfold Kid at hk; omega)
set_option maxRecDepth 100000 in
theorem rk_stop {p q : Nat} (h : Rk bt A p) (hp : p < A.length) (hq : q < A.length) (hk : Kid q p) (hb : bt A[p] A[q] = false) : HeapFrom bt A 0 := by
  intro i r hi hr hki _
  by_cases e : i = p
  · subst e
    unfold Kid at hk hki
    have e2 : r = q := by omega
    subst e2
    exact hb
  · exact h.a i r hi hr hki e
set_option maxRecDepth 100000 in
/-- Nothing is better than what is on top. -/
theorem heap_top (R : Ranks bt) (h : HeapFrom bt A 0) (h0 : 0 < A.length) : ∀ i (hi : i < A.length), bt A[i] A[0] = false := by
  intro i
  induction i using Nat.strongRecOn with
  | ind i ih =>
    intro hi
    by_cases e : i = 0
    · subst e; exact R.irr _
    · have hq : (i - 1) / 2 < i := by omega
      exact R.ntr _ _ _ (h i ((i - 1) / 2) hi (by omega) (by unfold Kid; omega) (Nat.zero_le _)) (ih _ hq (by omega))
set_option maxRecDepth 100000 in
theorem heap_best (R : Ranks bt) (h : HeapFrom bt A 0) (h0 : 0 < A.length) : ∀ x ∈ A, bt x A[0] = false := by
  intro x hx
  obtain ⟨i, hi, rfl⟩ := List.mem_iff_getElem.1 hx
  exact heap_top R h h0 i hi
set_option maxRecDepth 100000 in
theorem heap_half (bt : α → α → Bool) (A : List α) {k : Nat} (hk : A.length / 2 ≤ k) : HeapFrom bt A k := by
  intro i q hi hq hki hkq
  unfold Kid at hki
  omega
set_option maxRecDepth 100000 in
theorem heap_empty (bt : α → α → Bool) : HeapFrom bt ([] : List α) 0 := fun i q hi => by simp at hi
/-- What is left when the last one is laid on top. -/
def popL (A : List α) (m : Nat) (hm : m < A.length) : List α := (A.set 0 A[m]).take m
set_option maxRecDepth 100000 in
theorem popL_len {m : Nat} (hm : A.length = m + 1) : (popL A m (by omega)).length = m := by simp [popL]; omega
set_option maxRecDepth 100000 in
theorem popL_at {m i : Nat} (hm : A.length = m + 1) (hi : i < m) : (popL A m (by omega))[i]'(by rw [popL_len hm]; exact hi) = if 0 = i then A[m] else A[i] := by
  simp only [popL, List.getElem_take, List.getElem_set]
set_option maxRecDepth 100000 in
theorem popL_sk {m : Nat} (hm : A.length = m + 1) (h : HeapFrom bt A 0) : Sk bt (popL A m (by omega)) 0 0 where
  a := fun i q hi hq hk _ hne => by
    rw [popL_len hm] at hi hq
    unfold Kid at hk
    rw [popL_at hm hi, popL_at hm hq, if_neg (by omega), if_neg (by omega)]
    exact h i q (by omega) (by omega) hk (Nat.zero_le _)
  b := fun i q hi hq hk hk2 _ => by unfold Kid at hk2; omega
set_option maxRecDepth 100000 in
theorem popL_perm {m : Nat} (hm : A.length = m + 1) : A.Perm (A[0] :: popL A m (by omega)) := by
  cases A with
  | nil => simp at hm
  | cons a t =>
    unfold popL
    rcases List.eq_nil_or_concat t with rfl | ⟨s, z, rfl⟩
    · obtain rfl : m = 0 := by simpa using hm.symm
      simp
    · obtain rfl : m = s.length + 1 := by simpa using hm.symm
      have e : (a :: (s ++ [z]))[s.length + 1]'(by simp) = z := by simp
      simp only [List.concat_eq_append, List.set_cons_zero, List.getElem_cons_zero, List.getElem_cons_succ, List.getElem_concat_length, List.take_succ_cons, List.take_left']
      simp only [List.perm_cons]
      exact List.perm_append_comm
end Go.Proofs.YtnmacalbbmeedaaGreat
/- Entries of a queue: an item, and what it is ordered by. -/
namespace Go.Proofs.YtnmacalbbmeedaaGreat
open Go.RowKit Go.Maps Go.Shelf
open Go.Sort (grow grow_empty grow_grow alloc_eq_grow heap_grow_old)

abbrev Ent := Int × Int × Int × Int × Int × Int
def entE : Elt Ent where
  ty := 111
  sl := 140
  n := 6
  bytes := 48
  zero := .agg #[.int .i64 0, .int .i64 0, .int .i64 0, .int .i64 0, .int .i64 0, .int .i64 0]
  enc := fun p => [.int .i64 p.1, .int .i64 p.2.1, .int .i64 p.2.2.1, .int .i64 p.2.2.2.1, .int .i64 p.2.2.2.2.1, .int .i64 p.2.2.2.2.2]
  under := Tryz.underlying140
  info := by kernel_rfl
  pos := by decide
  small := by decide
  zlen := by kernel_rfl
  len := fun _ => rfl
  one := fun x u hu => by
    simp only [List.mem_cons, List.not_mem_nil, or_false] at hu
    rcases hu with rfl | rfl | rfl | rfl | rfl | rfl <;> rfl
def entV (x : Ent) : Value := .agg #[.int .i64 x.1, .int .i64 x.2.1, .int .i64 x.2.2.1, .int .i64 x.2.2.2.1, .int .i64 x.2.2.2.2.1, .int .i64 x.2.2.2.2.2]
/-- The entry of an item whose symbols are there. -/
def entOf (x : Item) : Ent := (x.1, x.2.1, x.2.2, x.1, x.2.1, x.2.2)
def itemOf (x : Ent) : Item := (x.1, x.2.1, x.2.2.1)
def byOf (x : Ent) : Item := x.2.2.2
def FitsE (x : Ent) : Prop := byOf x = itemOf x ∧ FitsI (itemOf x)
set_option maxRecDepth 100000 in
theorem fits_ent {x : Item} (h : FitsI x) : FitsE (entOf x) := ⟨rfl, h⟩
set_option maxRecDepth 100000 in
theorem fits_form {x : Ent} (h : FitsE x) : x = entOf (itemOf x) := by
  obtain ⟨a, b, c, d⟩ := x
  have h1 : d = (a, b, c) := h.1
  subst h1; rfl
set_option maxRecDepth 100000 in
theorem ent_inj {x y : Item} (h : entOf x = entOf y) : x = y := congrArg itemOf h
set_option maxRecDepth 100000 in
theorem fitsE_zero : FitsE (0, 0, 0, 0, 0, 0) := ⟨rfl, by unfold FitsI FitsN itemOf; simp⟩
/-- The order of entries. -/
def entBetter (J : List Joint) (x y : Ent) : Bool := betterOf J (byOf x) (byOf y)
set_option maxRecDepth 100000 in
theorem entBetter_ent (J : List Joint) (x y : Item) : entBetter J (entOf x) (entOf y) = betterOf J x y := rfl
set_option maxRecDepth 100000 in
theorem better_ranks (J : List Joint) : Ranks (betterOf J) where
  asym := fun _ _ h => better_asymm h
  ntr := fun a b c h k => by
    cases e : betterOf J a c with
    | false => rfl
    | true =>
      rcases better_total h with h1 | h1
      · rw [better_trans h1 e] at k; cases k
      · rw [better_left h1] at e; rw [e] at k; cases k
set_option maxRecDepth 100000 in
theorem entBetter_ranks (J : List Joint) : Ranks (entBetter J) where
  asym := fun _ _ h => (better_ranks J).asym _ _ h
  ntr := fun _ _ _ h k => (better_ranks J).ntr _ _ _ h k
end Go.Proofs.YtnmacalbbmeedaaGreat
/- A queue, as plain lists. -/
namespace Go.Proofs.YtnmacalbbmeedaaGreat
open Go.RowKit Go.Maps

/-- A queue: its entries (in any order), what it knows, and what it has counted. -/
structure Qm where
  ents : List Item
  known : Cn
  pu : Int
  po : Int
  pk : Int
  re : Int
def pairI (x : Item) : Int × Int := (x.1, x.2.1)
def itemC (x : (Int × Int) × Int) : Item := (x.1.1, x.1.2, x.2)
def itemsOf (M : Cn) : List Item := M.map itemC
set_option maxRecDepth 100000 in
theorem itemsOf_len (M : Cn) : (itemsOf M).length = M.length := by simp [itemsOf]
set_option maxRecDepth 100000 in
theorem mem_itemsOf {M : Cn} {x : Item} : x ∈ itemsOf M ↔ (pairI x, x.2.2) ∈ M := by
  unfold itemsOf
  rw [List.mem_map]
  constructor
  · rintro ⟨⟨⟨a, b⟩, c⟩, h, rfl⟩; exact h
  · intro h; exact ⟨_, h, rfl⟩
/-- Is it to be built anew? -/
def manyQ (e k : Nat) : Bool := decide (16 < e) && decide (2 * k < e)
/-- Put. -/
def putQ (q : Qm) (p : Int × Int) (n : Int) : Qm :=
  if n < 1 then { q with known := delC q.known p }
  else bif manyQ (q.ents.length + 1) (insC p n q.known).length then ⟨itemsOf (insC p n q.known), insC p n q.known, q.pu + 1, q.po, max q.pk ((q.ents.length + 1 : Nat) : Int), q.re + 1⟩
  else ⟨q.ents ++ [(p.1, p.2, n)], insC p n q.known, q.pu + 1, q.po, max q.pk ((q.ents.length + 1 : Nat) : Int), q.re⟩
/-- What is sane of it: all symbols are there, and it has not more than was put. -/
structure SaneQ (J : List Joint) (q : Qm) : Prop where
  ents : ∀ x ∈ q.ents, FitsI x ∧ thereOf J x.1 = true ∧ thereOf J x.2.1 = true ∧ 1 ≤ x.2.2
  known : ∀ x ∈ q.known, FitsPr x.1 ∧ thereOf J x.1.1 = true ∧ thereOf J x.1.2 = true ∧ 1 ≤ x.2 ∧ x.2 ≤ 9223372036854775807
  ris : RisC q.known
  po : 0 ≤ q.po
  cnt : q.po + q.ents.length ≤ q.pu
  len : (q.known.length : Int) ≤ q.pu
  re : 0 ≤ q.re ∧ q.re ≤ q.pu
def newQ : Qm := ⟨[], [], 0, 0, 0, 0⟩
set_option maxRecDepth 100000 in
theorem saneQ_new (J : List Joint) : SaneQ J newQ := ⟨fun x hx => by simp [newQ] at hx, fun x hx => by simp [newQ] at hx, List.Pairwise.nil, by simp [newQ], by simp [newQ], by simp [newQ], by simp [newQ]⟩
set_option maxRecDepth 100000 in
theorem ins_len_le {M : Cn} (h : RisC M) (p : Int × Int) (n : Int) : (insC p n M).length ≤ M.length + 1 := by
  rw [len_ins h]; split <;> omega
set_option maxRecDepth 100000 in
theorem del_len_le (M : Cn) (p : Int × Int) : (delC M p).length ≤ M.length := List.length_filter_le _ _
set_option maxRecDepth 100000 in
theorem known_ins {J : List Joint} {q : Qm} (h : SaneQ J q) {p : Int × Int} {n : Int} (hp : FitsPr p) (h1 : thereOf J p.1 = true) (h2 : thereOf J p.2 = true) (hn : 1 ≤ n) (hn2 : n ≤ 9223372036854775807) :
    ∀ x ∈ insC p n q.known, FitsPr x.1 ∧ thereOf J x.1.1 = true ∧ thereOf J x.1.2 = true ∧ 1 ≤ x.2 ∧ x.2 ≤ 9223372036854775807 := by
  intro x hx
  rcases ins_mem.1 hx with rfl | ⟨hx, _⟩
  · exact ⟨hp, h1, h2, hn, hn2⟩
  · exact h.known x hx
set_option maxRecDepth 100000 in
theorem SaneQ.put {J : List Joint} {q : Qm} (h : SaneQ J q) {p : Int × Int} {n : Int} (hp : FitsPr p) (h1 : thereOf J p.1 = true) (h2 : thereOf J p.2 = true) (hn2 : n ≤ 9223372036854775807) : SaneQ J (putQ q p n) := by
  unfold putQ
  have hl := h.len
  have hc := h.cnt
  have hr := h.re
  have ho := h.po
  split
  · refine ⟨h.ents, fun x hx => h.known x (del_mem.1 hx).1, ris_del h.ris p, ho, hc, ?_, hr⟩
    have := del_len_le q.known p
    simp only; omega
  · rename_i hn
    have hi := ins_len_le h.ris p n
    cases hm : manyQ (q.ents.length + 1) (insC p n q.known).length with
    | true =>
      rw [cond_true]
      have hm' : 16 < q.ents.length + 1 ∧ 2 * (insC p n q.known).length < q.ents.length + 1 := by simpa [manyQ] using hm
      refine ⟨fun x hx => ?_, known_ins h hp h1 h2 (by omega) hn2, ris_ins h.ris, ho, ?_, by simp only; omega, by simp only; omega⟩
      · have h3 := known_ins h hp h1 h2 (by omega) hn2 _ (mem_itemsOf.1 hx)
        exact ⟨⟨h3.1.1, h3.1.2, by unfold FitsN; omega⟩, h3.2.1, h3.2.2.1, h3.2.2.2.1⟩
      · simp only [itemsOf_len]; omega
    | false =>
      rw [cond_false]
      refine ⟨fun x hx => ?_, known_ins h hp h1 h2 (by omega) hn2, ris_ins h.ris, ho, by simp only [List.length_append, List.length_singleton]; omega, by simp only; omega, by simp only; omega⟩
      rcases List.mem_append.1 hx with hx | hx
      · exact h.ents x hx
      · rw [List.mem_singleton] at hx
        subst hx
        exact ⟨⟨hp.1, hp.2, by unfold FitsN; simp only; omega⟩, h1, h2, by simp only; omega⟩
/-- Entries are taken, the better ones first, until one is live: which one, what is left, how many were taken. -/
inductive Pops (J : List Joint) (f : Int × Int → Int) : List Item → Option Item → List Item → Nat → Prop where
  | none : Pops J f [] .none [] 0
  | hit {E r : List Item} {x : Item} (hp : E.Perm (x :: r)) (hb : ∀ y ∈ E, betterOf J y x = false) (hf : f (pairI x) = x.2.2) : Pops J f E (.some x) r 1
  | miss {E r l : List Item} {x : Item} {o : Option Item} {n : Nat} (hp : E.Perm (x :: r)) (hb : ∀ y ∈ E, betterOf J y x = false) (hf : f (pairI x) ≠ x.2.2) (k : Pops J f r o l n) : Pops J f E o l (n + 1)
variable {J : List Joint} {f : Int × Int → Int}
set_option maxRecDepth 100000 in
/-- Of items whose symbols are there two than which none is better are one. -/
theorem best_one (hg : Good J) {E : List Item} (ht : ∀ x ∈ E, FitsI x ∧ thereOf J x.1 = true ∧ thereOf J x.2.1 = true ∧ 1 ≤ x.2.2) {x y : Item} (hx : x ∈ E) (hy : y ∈ E) (h1 : ∀ z ∈ E, betterOf J z x = false) (h2 : ∀ z ∈ E, betterOf J z y = false) : x = y := by
  have hxy := h2 x hx
  have hyx := h1 y hy
  by_cases e : x.1 = y.1 ∧ x.2.1 = y.2.1
  · rcases better_total hxy with k | ⟨k, _⟩
    · rw [hyx] at k; cases k
    · obtain ⟨a, b, c⟩ := x
      obtain ⟨a', b', c'⟩ := y
      simp only at e k
      rw [e.1, e.2, k]
  · have := better_one hg (ht x hx).2.1 (ht x hx).2.2.1 (ht y hy).2.1 (ht y hy).2.2.1 e hxy
    rw [hyx] at this; cases this
set_option maxRecDepth 100000 in
theorem Pops.sub {E l : List Item} {o : Option Item} {n : Nat} (h : Pops J f E o l n) : ∀ x ∈ l, x ∈ E := by
  induction h with
  | none => exact fun _ h => h
  | hit hp hb hf => exact fun x hx => hp.mem_iff.2 (List.mem_cons_of_mem _ hx)
  | miss hp hb hf k ih => exact fun x hx => hp.mem_iff.2 (List.mem_cons_of_mem _ (ih x hx))
set_option maxRecDepth 100000 in
theorem Pops.len {E l : List Item} {o : Option Item} {n : Nat} (h : Pops J f E o l n) : l.length + n = E.length := by
  induction h with
  | none => rfl
  | hit hp hb hf => rw [hp.length_eq]; simp
  | miss hp hb hf k ih => rw [hp.length_eq, List.length_cons]; omega
set_option maxRecDepth 100000 in
theorem Pops.one (hg : Good J) {E l : List Item} {o : Option Item} {n : Nat} (h : Pops J f E o l n) : ∀ {E2 l2 : List Item} {o2 : Option Item} {n2 : Nat}, Pops J f E2 o2 l2 n2 → E.Perm E2 → (∀ x ∈ E, FitsI x ∧ thereOf J x.1 = true ∧ thereOf J x.2.1 = true ∧ 1 ≤ x.2.2) → o = o2 ∧ n = n2 ∧ l.Perm l2 := by
  induction h with
  | none =>
    intro E2 l2 o2 n2 k hp _
    have := hp.symm.eq_nil
    subst this
    cases k with
    | none => exact ⟨rfl, rfl, List.Perm.refl _⟩
    | hit hp2 _ _ => exact absurd hp2.symm.eq_nil (by simp)
    | miss hp2 _ _ _ => exact absurd hp2.symm.eq_nil (by simp)
  | @hit E r x hp hb hf =>
    intro E2 l2 o2 n2 k hq ht
    have hxE : x ∈ E := hp.mem_iff.2 List.mem_cons_self
    cases k with
    | none => exact absurd (hp.symm.trans hq).eq_nil (by simp)
    | @hit _ r2 x2 hp2 hb2 hf2 =>
      have e : x = x2 := best_one hg ht hxE (hq.mem_iff.2 (hp2.mem_iff.2 List.mem_cons_self)) hb fun z hz => hb2 z (hq.mem_iff.1 hz)
      subst e
      exact ⟨rfl, rfl, ((hp.symm.trans hq).trans hp2).cons_inv⟩
    | @miss _ r2 _ x2 _ _ hp2 hb2 hf2 k2 =>
      have e : x = x2 := best_one hg ht hxE (hq.mem_iff.2 (hp2.mem_iff.2 List.mem_cons_self)) hb fun z hz => hb2 z (hq.mem_iff.1 hz)
      subst e
      exact absurd hf hf2
  | @miss E r l x o n hp hb hf k ih =>
    intro E2 l2 o2 n2 k2 hq ht
    have hxE : x ∈ E := hp.mem_iff.2 List.mem_cons_self
    cases k2 with
    | none => exact absurd (hp.symm.trans hq).eq_nil (by simp)
    | @hit _ r2 x2 hp2 hb2 hf2 =>
      have e : x = x2 := best_one hg ht hxE (hq.mem_iff.2 (hp2.mem_iff.2 List.mem_cons_self)) hb fun z hz => hb2 z (hq.mem_iff.1 hz)
      subst e
      exact absurd hf2 hf
    | @miss _ r2 l3 x2 o3 n3 hp2 hb2 hf2 k3 =>
      have e : x = x2 := best_one hg ht hxE (hq.mem_iff.2 (hp2.mem_iff.2 List.mem_cons_self)) hb fun z hz => hb2 z (hq.mem_iff.1 hz)
      subst e
      obtain ⟨a, b, c⟩ := ih k3 ((hp.symm.trans hq).trans hp2).cons_inv fun y hy => ht y (hp.mem_iff.2 (List.mem_cons_of_mem _ hy))
      exact ⟨a, by rw [b], c⟩
set_option maxRecDepth 100000 in
/-- What a live one is among those that are live: none is better; the others are left. -/
theorem Pops.some {E l : List Item} {o : Option Item} {n : Nat} (h : Pops J f E o l n) : ∀ x, o = .some x → x ∈ E ∧ f (pairI x) = x.2.2 ∧ (∀ y ∈ E, f (pairI y) = y.2.2 → betterOf J y x = false) ∧ (∀ y ∈ E, f (pairI y) = y.2.2 → y = x ∨ y ∈ l) := by
  induction h with
  | none => intro x e; cases e
  | @hit E r z hp hb hf =>
    intro x e
    cases e
    refine ⟨hp.mem_iff.2 List.mem_cons_self, hf, fun y hy _ => hb y hy, fun y hy _ => ?_⟩
    exact List.mem_cons.1 (hp.mem_iff.1 hy)
  | @miss E r l z o n hp hb hf k ih =>
    intro x e
    obtain ⟨h1, h2, h3, h4⟩ := ih x e
    refine ⟨hp.mem_iff.2 (List.mem_cons_of_mem _ h1), h2, fun y hy hl => ?_, fun y hy hl => ?_⟩
    · rcases List.mem_cons.1 (hp.mem_iff.1 hy) with rfl | hy
      · exact absurd hl hf
      · exact h3 y hy hl
    · rcases List.mem_cons.1 (hp.mem_iff.1 hy) with rfl | hy
      · exact absurd hl hf
      · exact h4 y hy hl
set_option maxRecDepth 100000 in
theorem Pops.nothing {E l : List Item} {o : Option Item} {n : Nat} (h : Pops J f E o l n) : o = .none → l = [] ∧ ∀ y ∈ E, f (pairI y) ≠ y.2.2 := by
  induction h with
  | none => exact fun _ => ⟨rfl, fun y hy => by simp at hy⟩
  | hit hp hb hf => intro e; cases e
  | miss hp hb hf k ih =>
    intro e
    obtain ⟨h1, h2⟩ := ih e
    refine ⟨h1, fun y hy => ?_⟩
    rcases List.mem_cons.1 (hp.mem_iff.1 hy) with rfl | hy
    · exact hf
    · exact h2 y hy
/-- Behind Pop. -/
def popQ (q : Qm) (o : Option Item) (l : List Item) (n : Nat) : Qm := { q with ents := l, known := match o with | .none => q.known | .some x => delC q.known (pairI x), po := q.po + n }
set_option maxRecDepth 100000 in
theorem SaneQ.pop {q : Qm} (h : SaneQ J q) {o : Option Item} {l : List Item} {n : Nat} (hp : Pops J f q.ents o l n) : SaneQ J (popQ q o l n) := by
  have hl := hp.len
  have hc := h.cnt
  have ho := h.po
  refine ⟨fun x hx => h.ents x (hp.sub x hx), ?_, ?_, by simp only [popQ]; omega, by simp only [popQ]; omega, ?_, h.re⟩
  · intro x hx
    cases o with
    | none => exact h.known x hx
    | some y => exact h.known x (del_mem.1 hx).1
  · cases o with
    | none => exact h.ris
    | some y => exact ris_del h.ris _
  · have := h.len
    cases o with
    | none => exact this
    | some y =>
      have := del_len_le q.known (pairI y)
      simp only [popQ]; omega
end Go.Proofs.YtnmacalbbmeedaaGreat
