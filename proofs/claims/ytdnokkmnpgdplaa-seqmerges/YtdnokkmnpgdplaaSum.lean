/- Changes, summed: plain lists. -/
import Derived.Test.YtdnokkmnpgdplaaRun
namespace Go.Proofs.Ytdnokkmnpgdplaa
open Go.RowKit Go.Maps

def adj : List Int → List (Int × Int)
  | x :: y :: r => (x, y) :: adj (y :: r)
  | _ => []
theorem adj_len : ∀ X : List Int, (adj X).length = X.length - 1
  | [] => rfl
  | [_] => rfl
  | x :: y :: r => by have := adj_len (y :: r); simp [adj] at this ⊢; omega
theorem adj_mem : ∀ {X : List Int} {q : Int × Int}, q ∈ adj X → q.1 ∈ X ∧ q.2 ∈ X
  | [], _, h => by simp [adj] at h
  | [_], _, h => by simp [adj] at h
  | x :: y :: r, q, h => by
    rw [adj] at h
    rcases List.mem_cons.1 h with e | e
    · subst e; simp
    · have := adj_mem e
      exact ⟨List.mem_cons_of_mem _ this.1, List.mem_cons_of_mem _ this.2⟩
def sumF (f : Int × Int → Int) : List (Int × Int) → Int
  | [] => 0
  | q :: r => f q + sumF f r
theorem sumF_app (f : Int × Int → Int) (a b : List (Int × Int)) : sumF f (a ++ b) = sumF f a + sumF f b := by
  induction a with
  | nil => simp [sumF]
  | cons q r ih => simp only [List.cons_append, sumF, ih]; omega
theorem sumF_sub (f g : Int × Int → Int) : ∀ a : List (Int × Int), sumF (fun q => f q - g q) a = sumF f a - sumF g a
  | [] => by simp [sumF]
  | q :: r => by simp only [sumF, sumF_sub f g r]; omega
theorem sumF_zero {f : Int × Int → Int} : ∀ {a : List (Int × Int)}, (∀ q ∈ a, f q = 0) → sumF f a = 0
  | [], _ => rfl
  | q :: r, h => by rw [sumF, h q (by simp), sumF_zero fun z hz => h z (List.mem_cons_of_mem _ hz)]; rfl
theorem sum_one (a : Int × Int) (g : Int × Int → Int) : ∀ {Q : List (Int × Int)}, Q.Nodup → sumF (fun q => (if a = q then 1 else 0) + g q) Q = (if a ∈ Q then 1 else 0) + sumF g Q
  | [], _ => by simp [sumF]
  | q :: r, h => by
    rw [List.nodup_cons] at h
    have ih := sum_one a g h.2
    simp only [sumF, ih]
    by_cases e : a = q
    · subst e
      rw [if_pos rfl, if_neg h.1, if_pos (by simp)]; omega
    · rw [if_neg e]
      by_cases hm : a ∈ r
      · rw [if_pos hm, if_pos (List.mem_cons_of_mem _ hm)]; omega
      · rw [if_neg hm, if_neg (by simp [e, hm])]; omega
theorem sum_cnt {Q : List (Int × Int)} (hn : Q.Nodup) : ∀ X : List Int, (∀ q ∈ adj X, q ∈ Q) → sumF (cnt X) Q = ((X.length - 1 : Nat) : Int)
  | [], _ => sumF_zero fun _ _ => rfl
  | [_], _ => sumF_zero fun _ _ => rfl
  | x :: y :: r, h => by
    have ih := sum_cnt hn (y :: r) fun q hq => h q (by rw [adj]; exact List.mem_cons_of_mem _ hq)
    have e : cnt (x :: y :: r) = fun q => (if (x, y) = q then 1 else 0) + cnt (y :: r) q := by funext q; rw [cnt]
    rw [e, sum_one _ _ hn, if_pos (h (x, y) (by rw [adj]; simp)), ih]
    simp; omega
theorem ext_nodup : ∀ (P Q : List (Int × Int)), Q.Nodup → ∃ E, (Q ++ E).Nodup ∧ (∀ p ∈ P, p ∈ Q ++ E) ∧ ∀ e ∈ E, e ∈ P
  | [], Q, h => ⟨[], by simpa using h, fun p hp => by simp at hp, fun e he => by simp at he⟩
  | p :: P, Q, h => by
    obtain ⟨E, h1, h2, h3⟩ := ext_nodup P Q h
    by_cases hp : p ∈ Q ++ E
    · refine ⟨E, h1, fun q hq => ?_, fun e he => List.mem_cons_of_mem _ (h3 e he)⟩
      rcases List.mem_cons.1 hq with e | e
      · rw [e]; exact hp
      · exact h2 q e
    · refine ⟨E ++ [p], ?_, fun q hq => ?_, fun e he => ?_⟩
      · rw [← List.append_assoc]
        exact List.nodup_append.2 ⟨h1, by simp, fun a ha b hb e => by simp at hb; subst hb; exact hp (e ▸ ha)⟩
      · rw [← List.append_assoc, List.mem_append]
        rcases List.mem_cons.1 hq with e | e
        · exact .inr (by simp [e])
        · exact .inl (h2 q e)
      · rcases List.mem_append.1 he with e' | e'
        · exact List.mem_cons_of_mem _ (h3 e e')
        · simp at e'; subst e'; simp
def sumC : List Chg → Int
  | [] => 0
  | x :: r => x.2 + sumC r
theorem sumC_snoc (x : Chg) : ∀ L : List Chg, sumC (L ++ [x]) = sumC L + x.2
  | [] => by simp [sumC]
  | y :: r => by simp only [List.cons_append, sumC, sumC_snoc x r]; omega
theorem sumC_keys {f : Int × Int → Int} : ∀ {L : List Chg}, (∀ x ∈ L, f x.1 = x.2) → sumF f (L.map (·.1)) = sumC L
  | [], _ => rfl
  | x :: r, h => by simp only [List.map_cons, sumF, sumC]; rw [h x (by simp), sumC_keys fun z hz => h z (List.mem_cons_of_mem _ hz)]
theorem chg_sum {X X' : List Int} {L : List Chg} (h : ChangesOf (fun r => cnt X' r - cnt X r) L) (hX : FitsX X) (hX' : FitsX X') : sumC L = ((X'.length - 1 : Nat) : Int) - ((X.length - 1 : Nat) : Int) := by
  have hk : (L.map (·.1)).Nodup := by
    rw [List.Nodup, List.pairwise_map]
    refine h.1.imp ?_
    intro x y hxy e
    have e' : x.1 = y.1 := e
    rw [e'] at hxy
    exact pb_irrefl _ hxy
  obtain ⟨E, h1, h2, h3⟩ := ext_nodup (adj X ++ adj X') (L.map (·.1)) hk
  have f1 := sum_cnt h1 X fun q hq => h2 q (List.mem_append_left _ hq)
  have f2 := sum_cnt h1 X' fun q hq => h2 q (List.mem_append_right _ hq)
  have f3 := sumF_sub (cnt X') (cnt X) (L.map (·.1) ++ E)
  rw [sumF_app] at f3
  have f4 : sumF (fun q => cnt X' q - cnt X q) E = 0 := sumF_zero fun q hq => by
    have hf : FitsPr q := by
      rcases List.mem_append.1 (h3 q hq) with e | e
      · exact ⟨hX _ (adj_mem e).1, hX _ (adj_mem e).2⟩
      · exact ⟨hX' _ (adj_mem e).1, hX' _ (adj_mem e).2⟩
    have hno : q ∉ L.map (·.1) := fun hin => (List.nodup_append.1 h1).2.2 q hin q hq rfl
    by_cases e : cnt X' q - cnt X q = 0
    · exact e
    · exact absurd (List.mem_map.2 ⟨(q, _), (h.2 q _).2 ⟨hf, rfl, e⟩, rfl⟩) hno
  have f5 := sumC_keys (f := fun q => cnt X' q - cnt X q) (L := L) fun x hx => ((h.2 x.1 x.2).1 hx).2.1
  omega
theorem cnt_le : ∀ (X : List Int) (q : Int × Int), cnt X q ≤ (X.length : Int)
  | [], _ => by simp [cnt]
  | [_], _ => by simp [cnt]
  | x :: y :: r, q => by
    have := cnt_le (y :: r) q
    rw [cnt]
    simp at this ⊢
    split <;> omega
theorem chg_bound {X X' : List Int} {L : List Chg} (h : ChangesOf (fun r => cnt X' r - cnt X r) L) (h1 : X.length ≤ 1000) (h2 : X'.length ≤ 1000) : ∀ x ∈ L, -1000 ≤ x.2 ∧ x.2 ≤ 1000 := by
  intro x hx
  have := ((h.2 x.1 x.2).1 hx).2.1
  have a1 := cnt_le X x.1; have a2 := cnt_le X' x.1; have a3 := cnt_nonneg X x.1; have a4 := cnt_nonneg X' x.1
  simp only at this
  omega
theorem sumC_bound : ∀ {L : List Chg}, (∀ x ∈ L, -1000 ≤ x.2 ∧ x.2 ≤ 1000) → -1000 * (L.length : Int) ≤ sumC L ∧ sumC L ≤ 1000 * (L.length : Int)
  | [], _ => by simp [sumC]
  | x :: r, h => by
    have h1 := h x (by simp)
    have h2 := sumC_bound (L := r) fun z hz => h z (List.mem_cons_of_mem _ hz)
    simp only [sumC, List.length_cons]
    omega
theorem sumC_take {L : List Chg} {m : Nat} (hm : m < L.length) : sumC (L.take (m + 1)) = sumC (L.take m) + L[m].2 := by
  rw [List.take_add_one, List.getElem?_eq_getElem hm]
  exact sumC_snoc _ _
theorem changes_none_of {X : List Int} {L : List Chg} (h : ChangesOf (cnt X) L) : ChangesOf (fun r => cnt X r - cnt [] r) L := by
  have e : (fun r => cnt X r - cnt [] r) = cnt X := by funext r; simp [cnt]
  rw [e]; exact h
theorem cell3 (ad : Addr) (n : Nat) : ad.add (n + 2) = ⟨(ad.add n).block, (ad.add n).off + 2, none⟩ := by
  unfold Addr.add
  by_cases h : n = 0
  · subst h; simp
  · simp [h, Nat.add_assoc]
/-- The cells of a change. -/
theorem chg_at {w : World} {L : List Chg} {a : Option Addr} {n c : Nat} (h : eltsAt chgE w (.slice a n c) L) {k : Nat} (hk : k < L.length) : ∃ ad, a = some ad ∧ w.cell? (ad.add (k * 3)) = some (.int .i64 L[k].1.1) ∧ w.cell? ⟨(ad.add (k * 3)).block, (ad.add (k * 3)).off + 1, none⟩ = some (.int .i64 L[k].1.2) ∧ w.cell? ⟨(ad.add (k * 3)).block, (ad.add (k * 3)).off + 2, none⟩ = some (.int .i64 L[k].2) := by
  obtain ⟨_, _, e, hc⟩ := h
  obtain ⟨ad, e2, _, h1⟩ := hc k hk
  refine ⟨ad, (Value.slice.inj e).1.trans e2, h1 0 _ rfl, ?_, ?_⟩
  · rw [← two_cell]; exact h1 1 _ rfl
  · rw [← cell3]; exact h1 2 _ rfl
end Go.Proofs.Ytdnokkmnpgdplaa
