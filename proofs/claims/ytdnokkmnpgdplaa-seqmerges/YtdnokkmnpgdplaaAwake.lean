/- The laws' own first word: aab merged. And what is gone behind a merge. -/
import Derived.Test.YtdnokkmnpgdplaaMrg2
namespace Go.Proofs.Ytdnokkmnpgdplaa
open Go.RowKit Go.Maps

/-! What is gone. -/
theorem timesL_ne {p : Int × Int} {s : Int} (h : s ≠ p.1) (Z : List Int) : timesL p (s :: Z) = timesL p Z := by
  cases Z with
  | nil => rfl
  | cons y r => rw [timesL, if_neg fun e => h e.1]
theorem mergeL_head (p : Int × Int) (s y : Int) (r : List Int) : ∃ Z, mergeL p s (y :: r) = y :: Z ∨ mergeL p s (y :: r) = s :: Z := by
  cases r with
  | nil => exact ⟨[], .inl rfl⟩
  | cons z r =>
    rw [mergeL]
    split
    · exact ⟨_, .inr rfl⟩
    · exact ⟨_, .inl rfl⟩
theorem gone_of {p : Int × Int} {s : Int} (h1 : s ≠ p.1) (h2 : s ≠ p.2) : ∀ X : List Int, timesL p (mergeL p s X) = 0
  | [] => rfl
  | [x] => rfl
  | x :: y :: r => by
    rw [mergeL]
    split
    · rw [timesL_ne h1]; exact gone_of h1 h2 r
    · rename_i hno
      have ih := gone_of h1 h2 (y :: r)
      obtain ⟨Z, e | e⟩ := mergeL_head p s y r
      · rw [e] at ih ⊢
        rw [timesL, if_neg hno]; exact ih
      · rw [e] at ih ⊢
        rw [timesL, if_neg fun k => h2 k.2]; exact ih
theorem none_of {p : Int × Int} : ∀ {X : List Int}, (∀ x ∈ X, x ≠ p.1) ∨ (∀ x ∈ X, x ≠ p.2) → timesL p X = 0
  | [], _ => rfl
  | [x], _ => rfl
  | x :: y :: r, h => by
    rw [timesL, if_neg fun e => ?_]
    · exact none_of (h.imp (fun k z hz => k z (List.mem_cons_of_mem _ hz)) (fun k z hz => k z (List.mem_cons_of_mem _ hz)))
    · rcases h with h | h
      · exact h x (by simp) e.1
      · exact h y (by simp) e.2
theorem merge_same {p : Int × Int} {s : Int} : ∀ {X : List Int}, timesL p X = 0 → mergeL p s X = X
  | [], _ => rfl
  | [x], _ => rfl
  | x :: y :: r, h => by
    rw [timesL] at h
    split at h
    · omega
    · rename_i hno
      rw [mergeL, if_neg hno, merge_same h]
theorem gone_any {p : Int × Int} {s : Int} {X : List Int} (h : ∀ x ∈ X, x ≠ s) : timesL p (mergeL p s X) = 0 := by
  by_cases h1 : s = p.1
  · have h0 : timesL p X = 0 := none_of (.inl fun x hx => h1 ▸ h x hx)
    rw [merge_same h0, h0]
  · by_cases h2 : s = p.2
    · have h0 : timesL p X = 0 := none_of (.inr fun x hx => h2 ▸ h x hx)
      rw [merge_same h0, h0]
    · exact gone_of h1 h2 X
theorem changes_none {f : Int × Int → Int} {L : List Chg} (h : ChangesOf f L) (h0 : ∀ q, f q = 0) : L = [] := by
  cases L with
  | nil => rfl
  | cons x r =>
    have := (h.2 x.1 x.2).1 (by simp)
    rw [h0] at this
    exact absurd this.2.1.symm this.2.2
/-! Awake. -/
theorem aab : syms ⟨#[97, 97, 98]⟩ = [97, 97, 98] := rfl
theorem aab_merged : mergeL (97, 97) 256 [97, 97, 98] = [256, 98] := rfl
theorem aab_times : timesL (97, 97) [97, 97, 98] = 1 := rfl
theorem aab_changes : ChangesOf (fun r => cnt [256, 98] r - cnt [97, 97, 98] r) [((97, 97), -1), ((97, 98), -1), ((256, 98), 1)] := by
  refine ⟨by simp [pb], fun p c => ?_⟩
  simp only [cnt, List.mem_cons, List.not_mem_nil, or_false, Prod.mk.injEq]
  by_cases h1 : p = (97, 97)
  · subst h1
    simp [FitsPr]
    omega
  · by_cases h2 : p = (97, 98)
    · subst h2
      simp [FitsPr]
      omega
    · by_cases h3 : p = (256, 98)
      · subst h3
        simp [FitsPr]
        omega
      · rw [if_neg fun e => h3 e.symm, if_neg fun e => h1 e.symm, if_neg fun e => h2 e.symm]
        constructor
        · rintro (e | e | e)
          · exact absurd e.1 h1
          · exact absurd e.1 h2
          · exact absurd e.1 h3
        · rintro ⟨_, e, h⟩
          exact absurd e.symm h
theorem chg_cells {w : World} {base : Nat} {v : Value} {L : List Chg} (h : ownE chgE w base v L) {g n c : Nat} (hv : v = .slice (some ⟨g, 0, none⟩) n c) {k : Nat} (hk : k < L.length) :
    w.cell? ⟨g, k * 3, none⟩ = some (.int .i64 L[k].1.1) ∧ w.cell? ⟨g, k * 3 + 1, none⟩ = some (.int .i64 L[k].1.2) ∧ w.cell? ⟨g, k * 3 + 2, none⟩ = some (.int .i64 L[k].2) := by
  subst hv
  have := elts_at h.reads (Below.refl _ _) hk
  exact ⟨by have := this 0 _ rfl; rwa [add_zero_off] at this, by have := this 1 _ rfl; rwa [add_zero_off] at this, by have := this 2 _ rfl; rwa [add_zero_off] at this⟩
set_option maxHeartbeats 2000000 in
theorem awake_any (w : World) : Calls Try.prog 7 #[] w fun e w' => e = .returned (.bool true) ∧ Below w.heap.size w w' := by
  have cN := new_any ⟨#[97, 97, 98]⟩ w (by decide)
  go_enter Try.func7, Try.ntmps7
  go_wp2_with fail
  refine cN.mono ?_
  rintro e w1 ⟨K, rfl, hs1, hK, hb1⟩
  rw [aab] at hs1
  have HB1 := Lib.hid hb1; have HK := Lib.hid hK
  have cM := merge_any K w.heap.size _ _ 97 97 256 w1 hs1 ⟨by decide, by decide⟩ (by decide)
  rw [aab_merged, aab_times] at cM
  clear hs1 hK hb1 cN
  go_wp2_with fail
  refine cM.mono ?_
  rintro e w2 ⟨v, L, Y', rfl, _, ho, hc, _, hk⟩
  obtain rfl := changes_unique hc aab_changes
  have HB2 : Hid (Below w.heap.size w w2) := Lib.hid (Below.kept HB1.out hk (fun i e => by have := HK.out; omega) HB1.out.size)
  obtain ⟨a, cap, rfl, _⟩ := ho.form
  obtain ⟨g, rfl, _⟩ := ownE_some ho (by simp)
  obtain ⟨x0, x1, x2⟩ := chg_cells ho rfl (k := 0) (by simp)
  obtain ⟨y0, y1, y2⟩ := chg_cells ho rfl (k := 1) (by simp)
  obtain ⟨z0, z1, z2⟩ := chg_cells ho rfl (k := 2) (by simp)
  simp at x0 x1 x2 y0 y1 y2 z0 z1 z2
  clear ho hc hk cM
  go_wp2
  go_ret
  exact ⟨rfl, HB2.out⟩
end Go.Proofs.Ytdnokkmnpgdplaa
