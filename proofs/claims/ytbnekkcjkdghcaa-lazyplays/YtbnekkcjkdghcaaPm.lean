/- Pairs of a list, counted; a list merged; changes: plain lists. -/
import Derived.Test.YtbnekkcjkdghcaaMapP
namespace Go.Proofs.Ytbnekkcjkdghcaa

/-- How often a pair is there, overlapping ones too. -/
def cntP : List Int → Int × Int → Int
  | x :: y :: r, q => (if (x, y) = q then 1 else 0) + cntP (y :: r) q
  | _, _ => 0
set_option maxRecDepth 100000 in
theorem cnt_nil (q : Int × Int) : cntP [] q = 0 := rfl
set_option maxRecDepth 100000 in
theorem cnt_single (x : Int) (q : Int × Int) : cntP [x] q = 0 := rfl
set_option maxRecDepth 100000 in
theorem cnt_snoc (a t : Int) (q : Int × Int) : ∀ A : List Int, cntP (A ++ [a] ++ [t]) q = cntP (A ++ [a]) q + (if (a, t) = q then 1 else 0)
  | [] => by simp [cntP]
  | [x] => by simp [cntP]
  | x :: y :: A => by
    have ih := cnt_snoc a t q (y :: A)
    simp only [List.cons_append] at ih ⊢
    rw [cntP, ih, cntP]; omega
set_option maxRecDepth 100000 in
theorem cnt_last {M : List Int} (hM : 0 < M.length) (t : Int) (q : Int × Int) : cntP (M ++ [t]) q = cntP M q + (if (M[M.length - 1], t) = q then 1 else 0) := by
  have hne : M ≠ [] := fun e => by subst e; simp at hM
  have e : M = M.dropLast ++ [M[M.length - 1]] := by
    rw [← List.getLast_eq_getElem hne, List.dropLast_concat_getLast]
  have := cnt_snoc M[M.length - 1] t q M.dropLast
  rwa [← e] at this
set_option maxRecDepth 100000 in
theorem cnt_take_one (X : List Int) (q : Int × Int) : cntP (X.take 1) q = 0 := by
  match X with
  | [] => rfl
  | [x] => rfl
  | x :: y :: r => rfl
set_option maxRecDepth 100000 in
theorem ptake_snoc {X : List Int} {k : Nat} (hk : k < X.length) : X.take (k + 1) = X.take k ++ [X[k]] := by rw [List.take_add_one, List.getElem?_eq_getElem hk]; rfl
set_option maxRecDepth 100000 in
theorem cnt_take {X : List Int} {k : Nat} (h0 : 0 < k) (hk : k < X.length) (q : Int × Int) : cntP (X.take (k + 1)) q = cntP (X.take k) q + (if (X[k - 1], X[k]) = q then 1 else 0) := by
  have hl : (X.take k).length = k := by simp; omega
  have := cnt_last (M := X.take k) (by omega) X[k] q
  rw [← ptake_snoc hk] at this
  rw [this]
  simp only [hl, List.getElem_take]
set_option maxRecDepth 100000 in
theorem cnt_nonneg : ∀ (X : List Int) (q : Int × Int), 0 ≤ cntP X q
  | [], _ => by simp [cntP]
  | [x], _ => by simp [cntP]
  | x :: y :: r, q => by rw [cntP]; have := cnt_nonneg (y :: r) q; split <;> omega
set_option maxRecDepth 100000 in
theorem cnt_mem : ∀ {X : List Int} {q : Int × Int}, cntP X q ≠ 0 → q.1 ∈ X ∧ q.2 ∈ X
  | [], _, h => by simp [cntP] at h
  | [x], _, h => by simp [cntP] at h
  | x :: y :: r, q, h => by
    rw [cntP] at h
    by_cases e : (x, y) = q
    · subst e; simp
    · rw [if_neg e] at h
      have := cnt_mem (X := y :: r) (q := q) (by omega)
      exact ⟨List.mem_cons_of_mem _ this.1, List.mem_cons_of_mem _ this.2⟩
set_option maxRecDepth 100000 in
theorem cnt_pos_at {X : List Int} {k : Nat} (hk : k + 1 < X.length) : 0 < cntP X (X[k], X[k + 1]) := by
  induction X generalizing k with
  | nil => simp at hk
  | cons x r ih =>
    match r, hk with
    | [], hk => simp at hk
    | y :: r, hk =>
      rw [cntP]
      cases k with
      | zero => simp; have := cnt_nonneg (y :: r) (x, y); omega
      | succ k =>
        have := ih (k := k) (by simpa using hk)
        simp only [List.getElem_cons_succ] at this ⊢
        split <;> omega
set_option maxRecDepth 100000 in
theorem cnt_zero_at {X : List Int} {q : Int × Int} (h : ∀ k (hk : k + 1 < X.length), (X[k], X[k + 1]) ≠ q) : cntP X q = 0 := by
  induction X with
  | nil => rfl
  | cons x r ih =>
    match r, h, ih with
    | [], _, _ => rfl
    | y :: r, h, ih =>
      have h0 : (x, y) ≠ q := h 0 (by simp)
      rw [cntP, if_neg h0, ih fun k hk => h (k + 1) (by simpa using hk)]
      rfl
/-- The symbol in the place of each pair, from the left to the right. -/
def mergeL (p : Int × Int) (s : Int) : List Int → List Int
  | x :: y :: r => if x = p.1 ∧ y = p.2 then s :: mergeL p s r else x :: mergeL p s (y :: r)
  | [x] => [x]
  | [] => []
def timesL (p : Int × Int) : List Int → Nat
  | x :: y :: r => if x = p.1 ∧ y = p.2 then timesL p r + 1 else timesL p (y :: r)
  | [_] => 0
  | [] => 0
set_option maxRecDepth 100000 in
theorem mergeL_mem {p : Int × Int} {s x : Int} : ∀ {X : List Int}, x ∈ mergeL p s X → x ∈ X ∨ x = s
  | [], h => by simp [mergeL] at h
  | [y], h => by simp [mergeL] at h; exact .inl (by simp [h])
  | y :: z :: r, h => by
    rw [mergeL] at h
    split at h
    · rcases List.mem_cons.1 h with h | h
      · exact .inr h
      · rcases mergeL_mem (X := r) h with h | h
        · exact .inl (by simp [h])
        · exact .inr h
    · rcases List.mem_cons.1 h with h | h
      · exact .inl (by simp [h])
      · rcases mergeL_mem (X := z :: r) h with h | h
        · exact .inl (List.mem_cons_of_mem _ h)
        · exact .inr h
set_option maxRecDepth 100000 in
theorem pmerge_len {p : Int × Int} {s : Int} : ∀ X : List Int, (mergeL p s X).length + timesL p X = X.length
  | [] => rfl
  | [y] => rfl
  | y :: z :: r => by
    rw [mergeL, timesL]
    split
    · have := pmerge_len (p := p) (s := s) r; simp; omega
    · have := pmerge_len (p := p) (s := s) (z :: r); simp at this ⊢; omega
set_option maxRecDepth 100000 in
theorem addP_eq (f : Int × Int → Int) (p : Int × Int) (d : Int) (q : Int × Int) : addP f p d q = f q + (if p = q then d else 0) := by
  unfold addP
  by_cases e : q = p
  · subst e; simp
  · rw [if_neg e, if_neg fun h => e h.symm]; omega
/-- So far: k symbols are read, M is laid, n were merged, f tells what changed. -/
structure MInv (X : List Int) (p : Int × Int) (s : Int) (k : Nat) (M : List Int) (n : Nat) (f : Int × Int → Int) (was : Bool) : Prop where
  le : k ≤ X.length
  size : M.length + n = k
  same : n = 0 → M = X.take k
  emp : 0 < k → 0 < M.length
  rest : M ++ mergeL p s (X.drop k) = mergeL p s X
  many : n + timesL p (X.drop k) = timesL p X
  tells : ∀ q, f q = cntP M q - cntP (X.take k) q
  last : was = false → ∀ (_ : 0 < k) (h2 : 0 < M.length) (h3 : k - 1 < X.length), M[M.length - 1] = X[k - 1]
set_option maxRecDepth 100000 in
theorem minv_start (X : List Int) (p : Int × Int) (s : Int) : MInv X p s 0 [] 0 (fun _ => 0) false :=
  ⟨Nat.zero_le _, rfl, fun _ => by simp, fun h => by omega, by simp, by simp, fun q => by simp [cntP], fun _ h => by omega⟩
set_option maxRecDepth 100000 in
theorem drop_two {X : List Int} {k : Nat} (h1 : k + 1 < X.length) : X.drop k = X[k] :: X[k + 1] :: X.drop (k + 2) := by
  rw [List.drop_eq_getElem_cons (by omega), List.drop_eq_getElem_cons h1]
set_option maxRecDepth 100000 in
theorem minv_mem {X : List Int} {p : Int × Int} {s : Int} {k : Nat} {M : List Int} {n : Nat} {f : Int × Int → Int} {was : Bool} (h : MInv X p s k M n f was) {x : Int} (hx : x ∈ M) : x ∈ X ∨ x = s :=
  mergeL_mem (p := p) (by rw [← h.rest]; exact List.mem_append_left _ hx)
section
variable {X : List Int} {p : Int × Int} {s : Int} {k : Nat} {M : List Int} {n : Nat} {f g : Int × Int → Int} {was : Bool}
set_option maxRecDepth 100000 in
/-- A merge. -/
theorem minv_merge (h : MInv X p s k M n f was) (h1 : k + 1 < X.length) (e0 : X[k] = p.1) (e1 : X[k + 1] = p.2)
    (hg : ∀ q, g q = f q - (if p = q then 1 else 0) + (if h : 0 < k ∧ 0 < M.length then (if (M[M.length - 1]'(by omega), s) = q then 1 else 0) - (if (X[k - 1], X[k]) = q then 1 else 0) else 0)) : MInv X p s (k + 2) (M ++ [s]) (n + 1) g true := by
  have hd := drop_two h1
  have hsz := h.size
  refine ⟨by omega, by simp; omega, fun h0 => by omega, fun _ => by simp, ?_, ?_, fun q => ?_, fun h0 => by cases h0⟩
  · have := h.rest
    rw [hd, mergeL, if_pos ⟨e0, e1⟩] at this
    rw [← this]; simp
  · have := h.many
    rw [hd, timesL, if_pos ⟨e0, e1⟩] at this
    omega
  · have ep : p = (X[k], X[k + 1]) := by rw [e0, e1]
    rw [hg q, h.tells q, cnt_take (k := k + 1) (by omega) h1]
    simp only [Nat.add_sub_cancel]
    by_cases hk : 0 < k
    · have hM := h.emp hk
      rw [dif_pos ⟨hk, hM⟩, cnt_last hM, cnt_take hk (by omega), ← ep]
      omega
    · have hk0 : k = 0 := by omega
      subst hk0
      have hM : M = [] := List.eq_nil_of_length_eq_zero (by omega)
      subst hM
      rw [dif_neg (by simp), ← ep]
      simp only [Nat.zero_add, cnt_take_one, List.take_zero, cnt_nil, List.nil_append, cnt_single]
      omega
set_option maxRecDepth 100000 in
/-- A symbol as it was. -/
theorem minv_keep (h : MInv X p s k M n f was) (h1 : k < X.length) (hno : ∀ h2 : k + 1 < X.length, ¬ (X[k] = p.1 ∧ X[k + 1] = p.2))
    (hg : ∀ q, g q = f q + (if h : (0 < k ∧ 0 < M.length) ∧ was = true then (if (M[M.length - 1]'(by omega), X[k]) = q then 1 else 0) - (if (X[k - 1], X[k]) = q then 1 else 0) else 0)) : MInv X p s (k + 1) (M ++ [X[k]]) n g false := by
  have hsz := h.size
  have hd : X.drop k = X[k] :: X.drop (k + 1) := List.drop_eq_getElem_cons h1
  have hml : mergeL p s (X.drop k) = X[k] :: mergeL p s (X.drop (k + 1)) ∧ timesL p (X.drop k) = timesL p (X.drop (k + 1)) := by
    by_cases h2 : k + 1 < X.length
    · have hd2 : X.drop (k + 1) = X[k + 1] :: X.drop (k + 2) := List.drop_eq_getElem_cons h2
      rw [hd, hd2, mergeL, timesL, if_neg (hno h2), if_neg (hno h2)]
      exact ⟨rfl, rfl⟩
    · have : X.drop (k + 1) = [] := List.drop_eq_nil_of_le (by omega)
      rw [hd, this]
      exact ⟨rfl, rfl⟩
  refine ⟨by omega, by simp; omega, fun h0 => by rw [ptake_snoc h1, h.same h0], fun _ => by simp, ?_, by rw [← hml.2]; exact h.many, fun q => ?_, fun _ _ _ _ => by simp⟩
  · have := h.rest
    rw [hml.1] at this
    rw [← this]; simp
  · rw [hg q, h.tells q]
    by_cases hk : 0 < k
    · have hM := h.emp hk
      rw [cnt_last hM, cnt_take hk h1]
      cases hw : was with
      | true => rw [dif_pos ⟨⟨hk, hM⟩, rfl⟩]; omega
      | false =>
        rw [dif_neg (by simp), h.last hw hk hM (by omega)]
        omega
    · have hk0 : k = 0 := by omega
      subst hk0
      have hM : M = [] := List.eq_nil_of_length_eq_zero (by omega)
      subst hM
      rw [dif_neg (by simp)]
      simp only [Nat.zero_add, cnt_take_one, List.take_zero, cnt_nil, List.nil_append, cnt_single]
      omega
set_option maxRecDepth 100000 in
theorem minv_end (h : MInv X p s X.length M n f was) : M = mergeL p s X ∧ n = timesL p X ∧ ∀ q, f q = cntP (mergeL p s X) q - cntP X q := by
  have h1 := h.rest
  have h2 := h.many
  have h3 := h.tells
  rw [List.drop_length] at h1 h2
  simp only [mergeL, timesL, List.append_nil, Nat.add_zero] at h1 h2
  refine ⟨h1, h2, fun q => ?_⟩
  rw [h3 q, h1, List.take_length]
end
/-! Changes. -/
abbrev Chg := (Int × Int) × Int
/-- Is a pair ahead of another one? -/
def pb (p q : Int × Int) : Prop := p.1 < q.1 ∨ (p.1 = q.1 ∧ p.2 < q.2)
set_option maxRecDepth 100000 in
theorem pb_asymm {p q : Int × Int} (h : pb p q) : ¬ pb q p := by unfold pb at *; omega
set_option maxRecDepth 100000 in
theorem pb_trans {p q r : Int × Int} (h : pb p q) (k : pb q r) : pb p r := by unfold pb at *; omega
set_option maxRecDepth 100000 in
theorem pb_irrefl (p : Int × Int) : ¬ pb p p := by unfold pb; omega
set_option maxRecDepth 100000 in
theorem pb_total {p q : Int × Int} (h : p ≠ q) : pb p q ∨ pb q p := by
  unfold pb
  by_cases h1 : p.1 = q.1
  · by_cases h2 : p.2 = q.2
    · exact absurd (Prod.ext h1 h2) h
    · omega
  · omega
/-- The changes that f tells, rising. -/
def ChangesOf (f : Int × Int → Int) (L : List Chg) : Prop := L.Pairwise (fun x y => pb x.1 y.1) ∧ ∀ p c, (p, c) ∈ L ↔ FitsPr p ∧ f p = c ∧ c ≠ 0
set_option maxRecDepth 100000 in
theorem rising_unique {α : Type} {R : α → α → Prop} (hR : ∀ a b, R a b → ¬ R b a) : ∀ {a b : List α}, (∀ x, x ∈ a ↔ x ∈ b) → a.Pairwise R → b.Pairwise R → a = b
  | [], b, h, _, _ => by
    cases b with
    | nil => rfl
    | cons y b => exact absurd ((h y).2 (by simp)) (by simp)
  | x :: a, [], h, _, _ => absurd ((h x).1 (by simp)) (by simp)
  | x :: a, y :: b, h, ha, hb => by
    rw [List.pairwise_cons] at ha hb
    have hxy : x = y := by
      rcases List.mem_cons.1 ((h x).1 (by simp)) with e | e
      · exact e
      · rcases List.mem_cons.1 ((h y).2 (by simp)) with e2 | e2
        · exact e2.symm
        · exact absurd (hb.1 x e) (hR _ _ (ha.1 y e2))
    subst hxy
    have : a = b := rising_unique hR (fun z => ?_) ha.2 hb.2
    · rw [this]
    · constructor
      · intro hz
        rcases List.mem_cons.1 ((h z).1 (List.mem_cons_of_mem _ hz)) with e | e
        · subst e; exact absurd (ha.1 _ hz) (fun k => hR _ _ k k)
        · exact e
      · intro hz
        rcases List.mem_cons.1 ((h z).2 (List.mem_cons_of_mem _ hz)) with e | e
        · subst e; exact absurd (hb.1 _ hz) (fun k => hR _ _ k k)
        · exact e
set_option maxRecDepth 100000 in
theorem changes_unique {f : Int × Int → Int} {L M : List Chg} (h : ChangesOf f L) (k : ChangesOf f M) : L = M :=
  rising_unique (fun _ _ h => pb_asymm h) (fun x => by rw [show x = (x.1, x.2) from rfl, h.2, k.2]) h.1 k.1
end Go.Proofs.Ytbnekkcjkdghcaa
