/- Adding words, as the document says it, on plain lists. -/
import Derived.Test.YtbacbgpemaldbaaBag
namespace Go.Proofs.Ytbacbgpemaldbaa

/-- A word that is there so many times more; else an error's number. -/
def addW (L : Bag) (s : ByteArray) (n : Int) : Bag × Int :=
  if s.size = 0 ∨ n < 1 then (L, 1) else if countOf L s + n ≤ 9223372036854775807 then (putW s (countOf L s + n) L, 0) else (L, 5)
set_option maxRecDepth 100000 in
theorem addW_arg {L : Bag} {s : ByteArray} {n : Int} (h : s.size = 0 ∨ n < 1) : addW L s n = (L, 1) := if_pos h
set_option maxRecDepth 100000 in
theorem addW_over {L : Bag} {s : ByteArray} {n : Int} (h : ¬ (s.size = 0 ∨ n < 1)) (k : ¬ countOf L s + n ≤ 9223372036854775807) : addW L s n = (L, 5) := by unfold addW; rw [if_neg h, if_neg k]
set_option maxRecDepth 100000 in
theorem addW_ok {L : Bag} {s : ByteArray} {n : Int} (h : ¬ (s.size = 0 ∨ n < 1)) (k : countOf L s + n ≤ 9223372036854775807) : addW L s n = (putW s (countOf L s + n) L, 0) := by unfold addW; rw [if_neg h, if_pos k]
/-- A counter's words: rising, counts within. -/
def Sound (L : Bag) : Prop := Rising L ∧ ∀ p ∈ L, 1 ≤ p.2 ∧ p.2 ≤ 9223372036854775807 ∧ p.1.size ≤ 9223372036854775807
set_option maxRecDepth 100000 in
theorem sound_nil : Sound [] := ⟨List.Pairwise.nil, by simp⟩
set_option maxRecDepth 100000 in
theorem Sound.count {L : Bag} (h : Sound L) (s : ByteArray) : 0 ≤ countOf L s ∧ countOf L s ≤ 9223372036854775807 := by
  rcases countOf_cases L s with ⟨h1, _⟩ | h1
  · rw [h1]; omega
  · have := h.2 _ h1
    simp only at this; omega
set_option maxRecDepth 100000 in
theorem Sound.add {L : Bag} (h : Sound L) {s : ByteArray} (n : Int) (hs : s.size ≤ 9223372036854775807) : Sound (addW L s n).1 := by
  unfold addW
  split
  · exact h
  · split
    · refine ⟨rising_putW h.1, fun p hp => ?_⟩
      rcases (mem_putW h.1 p).1 hp with rfl | ⟨k, _⟩
      · have := h.count s
        exact ⟨by simp only; omega, by simp only; omega, hs⟩
      · exact h.2 p k
    · exact h
set_option maxRecDepth 100000 in
theorem len_addW (L : Bag) (s : ByteArray) (n : Int) : (addW L s n).1.length ≤ L.length + 1 := by
  unfold addW
  split
  · simp
  · split
    · exact len_putW s _ L
    · simp
set_option maxRecDepth 100000 in
theorem addW_err (L : Bag) (s : ByteArray) (n : Int) : (addW L s n).2 = 0 ∨ ((addW L s n).1 = L ∧ ((addW L s n).2 = 1 ∨ (addW L s n).2 = 5)) := by
  unfold addW
  split
  · exact .inr ⟨rfl, .inl rfl⟩
  · split
    · exact .inl rfl
    · exact .inr ⟨rfl, .inr rfl⟩
/-! The document's own way: a list, word by word. -/
def refStep (s : ByteArray) (c : Int) (a : Bag × Bool) (p : ByteArray × Int) : Bag × Bool :=
  let b := if !a.2 && !ahead p.1 s then (a.1 ++ [(s, c)], true) else a
  (if p.1 = s then b.1 else b.1 ++ [p], b.2)
def refEnd (s : ByteArray) (c : Int) (a : Bag × Bool) : Bag := if a.2 then a.1 else a.1 ++ [(s, c)]
set_option maxRecDepth 100000 in
theorem ref_done (s : ByteArray) (c : Int) : ∀ (L A : Bag), (∀ p ∈ L, p.1 ≠ s) → L.foldl (refStep s c) (A, true) = (A ++ L, true)
  | [], A, _ => by simp
  | q :: r, A, h => by
    rw [List.foldl_cons]
    have : refStep s c (A, true) q = (A ++ [q], true) := by simp [refStep, h q (List.mem_cons_self ..)]
    rw [this, ref_done s c r _ fun p hp => h p (List.mem_cons_of_mem _ hp)]
    simp
set_option maxRecDepth 100000 in
theorem ref_put (s : ByteArray) (c : Int) : ∀ (L A : Bag), Rising L → refEnd s c (L.foldl (refStep s c) (A, false)) = A ++ putW s c L
  | [], A, _ => rfl
  | q :: r, A, h => by
    obtain ⟨h1, h2⟩ := List.pairwise_cons.1 h
    rw [List.foldl_cons]
    unfold putW
    by_cases ha : ahead q.1 s = true
    · have : refStep s c (A, false) q = (A ++ [q], false) := by simp [refStep, ha, ahead_ne ha]
      rw [this, ref_put s c r _ h2, if_pos ha]
      simp
    · have ha' : ahead q.1 s = false := by simpa using ha
      by_cases e : q.1 = s
      · have : refStep s c (A, false) q = (A ++ [(s, c)], true) := by simp [refStep, e, ahead_irrefl]
        rw [this, ref_done s c r _ fun p hp => by rw [← e]; exact (ahead_ne (h1 p hp)).symm, if_neg ha, if_pos e]
        simp [refEnd]
      · have : refStep s c (A, false) q = (A ++ [(s, c)] ++ [q], true) := by simp [refStep, ha', e]
        have hs' : ahead s q.1 = true := (ahead_total e).resolve_left ha
        rw [this, ref_done s c r _ fun p hp => (ahead_ne (ahead_trans hs' (h1 p hp))).symm, if_neg ha, if_neg e]
        simp [refEnd]
/-! Many words. -/
/-- All words of a list, one by one; at an error none. -/
def mergeW (X : Bag) : Bag → Bag × Int
  | [] => (X, 0)
  | p :: r => if (addW X p.1 p.2).2 = 0 then mergeW (addW X p.1 p.2).1 r else ([], (addW X p.1 p.2).2)
set_option maxRecDepth 100000 in
theorem merge_next {X L : Bag} {k : Nat} (hk : k < L.length) (h : (addW X L[k].1 L[k].2).2 = 0) : mergeW X (L.drop k) = mergeW (addW X L[k].1 L[k].2).1 (L.drop (k + 1)) := by
  rw [List.drop_eq_getElem_cons hk]
  conv => lhs; unfold mergeW
  rw [if_pos h]
set_option maxRecDepth 100000 in
theorem merge_stop {X L : Bag} {k : Nat} (hk : k < L.length) (h : (addW X L[k].1 L[k].2).2 ≠ 0) : mergeW X (L.drop k) = ([], (addW X L[k].1 L[k].2).2) := by
  rw [List.drop_eq_getElem_cons hk]
  conv => lhs; unfold mergeW
  rw [if_neg h]
set_option maxRecDepth 100000 in
theorem merge_end {X L : Bag} {k : Nat} (hk : L.length ≤ k) : mergeW X (L.drop k) = (X, 0) := by
  rw [List.drop_eq_nil_of_le hk]; rfl
/-- Can it be added? -/
def CanAdd (X : Bag) (p : ByteArray × Int) : Prop := p.1.size ≠ 0 ∧ 1 ≤ p.2 ∧ countOf X p.1 + p.2 ≤ 9223372036854775807
set_option maxRecDepth 100000 in
theorem can_iff (X : Bag) (p : ByteArray × Int) : (addW X p.1 p.2).2 = 0 ↔ CanAdd X p := by
  unfold addW CanAdd
  split
  · rename_i h; constructor
    · intro k; simp at k
    · intro k; omega
  · rename_i h
    split
    · rename_i k; exact ⟨fun _ => ⟨by omega, by omega, k⟩, fun _ => rfl⟩
    · rename_i k; exact ⟨fun x => by simp at x, fun x => absurd x.2.2 k⟩
set_option maxRecDepth 100000 in
theorem can_add {X : Bag} {p : ByteArray × Int} (h : CanAdd X p) : (addW X p.1 p.2).1 = putW p.1 (countOf X p.1 + p.2) X := by
  unfold CanAdd at h
  rw [addW_ok (by omega) h.2.2]
def Alike (a b : Bag × Int) : Prop := a.1 = b.1 ∧ (a.2 = 0 ↔ b.2 = 0)
set_option maxRecDepth 100000 in
theorem can_swap {X : Bag} (h : Sound X) {p q : ByteArray × Int} (hp : CanAdd X p) (hq : CanAdd (putW p.1 (countOf X p.1 + p.2) X) q) :
    CanAdd X q ∧ CanAdd (putW q.1 (countOf X q.1 + q.2) X) p ∧ putW q.1 (countOf (putW p.1 (countOf X p.1 + p.2) X) q.1 + q.2) (putW p.1 (countOf X p.1 + p.2) X) = putW p.1 (countOf (putW q.1 (countOf X q.1 + q.2) X) p.1 + p.2) (putW q.1 (countOf X q.1 + q.2) X) := by
  unfold CanAdd at hp hq ⊢
  rw [countOf_putW h.1] at hq ⊢
  rw [countOf_putW h.1]
  have c1 := h.count p.1
  by_cases e : q.1 = p.1
  · rw [e] at hq ⊢
    simp only [if_true] at hq ⊢
    refine ⟨by omega, by omega, ?_⟩
    refine rising_ext (rising_putW (rising_putW h.1)) (rising_putW (rising_putW h.1)) fun x => ?_
    rw [mem_putW (rising_putW h.1), mem_putW (rising_putW h.1), mem_putW h.1, mem_putW h.1]
    have e2 : countOf X p.1 + p.2 + q.2 = countOf X p.1 + q.2 + p.2 := by omega
    rw [e2]
    constructor
    · rintro (k | ⟨rfl | k, k'⟩)
      · exact .inl k
      · exact absurd rfl k'
      · exact .inr ⟨.inr k, k'⟩
    · rintro (k | ⟨rfl | k, k'⟩)
      · exact .inl k
      · exact absurd rfl k'
      · exact .inr ⟨.inr k, k'⟩
  · have e' : ¬ p.1 = q.1 := fun k => e k.symm
    rw [if_neg e] at hq ⊢
    rw [if_neg e']
    refine ⟨hq, hp, ?_⟩
    refine rising_ext (rising_putW (rising_putW h.1)) (rising_putW (rising_putW h.1)) fun x => ?_
    rw [mem_putW (rising_putW h.1), mem_putW (rising_putW h.1), mem_putW h.1, mem_putW h.1]
    constructor
    · rintro (rfl | ⟨rfl | ⟨k, k1⟩, k2⟩)
      · exact .inr ⟨.inl rfl, e⟩
      · exact .inl rfl
      · exact .inr ⟨.inr ⟨k, k2⟩, k1⟩
    · rintro (rfl | ⟨rfl | ⟨k, k1⟩, k2⟩)
      · exact .inr ⟨.inl rfl, e'⟩
      · exact .inl rfl
      · exact .inr ⟨.inr ⟨k, k2⟩, k1⟩
set_option maxRecDepth 100000 in
theorem merge_two (X : Bag) (p q : ByteArray × Int) (r : Bag) (h : CanAdd X p) (k : CanAdd (putW p.1 (countOf X p.1 + p.2) X) q) :
    mergeW X (p :: q :: r) = mergeW (putW q.1 (countOf (putW p.1 (countOf X p.1 + p.2) X) q.1 + q.2) (putW p.1 (countOf X p.1 + p.2) X)) r := by
  conv => lhs; unfold mergeW
  rw [if_pos ((can_iff X p).2 h), can_add h]
  conv => lhs; unfold mergeW
  rw [if_pos ((can_iff _ q).2 k), can_add k]
set_option maxRecDepth 100000 in
theorem merge_fails (X : Bag) (p q : ByteArray × Int) (r : Bag) (h : ¬ (CanAdd X p ∧ CanAdd (putW p.1 (countOf X p.1 + p.2) X) q)) : (mergeW X (p :: q :: r)).1 = [] ∧ (mergeW X (p :: q :: r)).2 ≠ 0 := by
  unfold mergeW
  split
  · rename_i h1
    have h1' := (can_iff X p).1 h1
    rw [can_add h1']
    unfold mergeW
    split
    · rename_i h2; exact absurd ⟨h1', (can_iff _ q).1 h2⟩ h
    · rename_i h2; exact ⟨rfl, h2⟩
  · rename_i h1; exact ⟨rfl, h1⟩
set_option maxRecDepth 100000 in
/-- In which order words come plays no part. -/
theorem merge_perm {l m : Bag} (h : l.Perm m) : ∀ {X : Bag}, Sound X → (∀ p ∈ l, p.1.size ≤ 9223372036854775807) → Alike (mergeW X l) (mergeW X m) := by
  induction h with
  | nil => intro X _ _; exact ⟨rfl, Iff.rfl⟩
  | cons p _ ih =>
    intro X hX hs
    unfold mergeW
    split
    · exact ih (hX.add _ (hs p (List.mem_cons_self ..))) fun q hq => hs q (List.mem_cons_of_mem _ hq)
    · exact ⟨rfl, Iff.rfl⟩
  | swap p q r =>
    intro X hX _
    by_cases h : CanAdd X q ∧ CanAdd (putW q.1 (countOf X q.1 + q.2) X) p
    · obtain ⟨h1, h2, h3⟩ := can_swap hX h.1 h.2
      rw [merge_two X q p r h.1 h.2, merge_two X p q r h1 h2, h3]
      exact ⟨rfl, Iff.rfl⟩
    · have h' : ¬ (CanAdd X p ∧ CanAdd (putW p.1 (countOf X p.1 + p.2) X) q) := fun k => by
        obtain ⟨h1, h2, _⟩ := can_swap hX k.1 k.2
        exact h ⟨h1, h2⟩
      obtain ⟨a1, a2⟩ := merge_fails X q p r h
      obtain ⟨b1, b2⟩ := merge_fails X p q r h'
      exact ⟨a1.trans b1.symm, ⟨fun k => absurd k a2, fun k => absurd k b2⟩⟩
  | trans h1 _ ih1 ih2 =>
    intro X hX hs
    obtain ⟨a1, a2⟩ := ih1 hX hs
    obtain ⟨b1, b2⟩ := ih2 hX fun p hp => hs p (h1.mem_iff.2 hp)
    exact ⟨a1.trans b1, a2.trans b2⟩
/-! Texts, each once. -/
def ofB (l : List UInt8) : ByteArray := ⟨l.toArray⟩
def addAllW (X : Bag) : List (List UInt8) → Bag × Int
  | [] => (X, 0)
  | t :: r => if (addW X (ofB t) 1).2 = 0 then addAllW (addW X (ofB t) 1).1 r else addW X (ofB t) 1
def ofW (X : Bag) : List (List UInt8) → Bag
  | [] => X
  | t :: r => ofW (addW X (ofB t) 1).1 r
set_option maxRecDepth 100000 in
theorem addAll_next {X : Bag} {P : List (List UInt8)} {k : Nat} (hk : k < P.length) (h : (addW X (ofB P[k]) 1).2 = 0) : addAllW X (P.drop k) = addAllW (addW X (ofB P[k]) 1).1 (P.drop (k + 1)) := by
  rw [List.drop_eq_getElem_cons hk]
  conv => lhs; unfold addAllW
  rw [if_pos h]
set_option maxRecDepth 100000 in
theorem addAll_stop {X : Bag} {P : List (List UInt8)} {k : Nat} (hk : k < P.length) (h : (addW X (ofB P[k]) 1).2 ≠ 0) : addAllW X (P.drop k) = addW X (ofB P[k]) 1 := by
  rw [List.drop_eq_getElem_cons hk]
  conv => lhs; unfold addAllW
  rw [if_neg h]
set_option maxRecDepth 100000 in
theorem addAll_end {X : Bag} {P : List (List UInt8)} {k : Nat} (hk : P.length ≤ k) : addAllW X (P.drop k) = (X, 0) := by
  rw [List.drop_eq_nil_of_le hk]; rfl
set_option maxRecDepth 100000 in
theorem of_next {X : Bag} {P : List (List UInt8)} {k : Nat} (hk : k < P.length) : ofW X (P.drop k) = ofW (addW X (ofB P[k]) 1).1 (P.drop (k + 1)) := by
  rw [List.drop_eq_getElem_cons hk]; rfl
set_option maxRecDepth 100000 in
theorem of_end {X : Bag} {P : List (List UInt8)} {k : Nat} (hk : P.length ≤ k) : ofW X (P.drop k) = X := by
  rw [List.drop_eq_nil_of_le hk]; rfl
set_option maxRecDepth 100000 in
theorem ofB_size (l : List UInt8) : (ofB l).size = l.length := by simp [ofB, ByteArray.size]
set_option maxRecDepth 100000 in
/-- Few texts can all be added, up to an empty one. -/
theorem addAll_upto : ∀ (P : List (List UInt8)) (X : Bag) (k : Nat) (n : Int), Sound X → (∀ s, countOf X s ≤ n) → n + k ≤ 9223372036854775807 → k ≤ P.length → (∀ t ∈ P.take k, t ≠ [] ∧ t.length ≤ 9223372036854775807) →
    (∀ h : k < P.length, P[k] = []) → addAllW X P = (ofW X (P.take k), if k < P.length then 1 else 0)
  | P, X, 0, n, _, _, _, _, _, he => by
    cases P with
    | nil => rfl
    | cons t r =>
      have e : t = [] := he (by simp)
      subst e
      unfold addAllW
      have h1 : addW X (ofB []) 1 = (X, 1) := addW_arg (.inl rfl)
      rw [h1]
      simp [ofW]
  | P, X, k + 1, n, hX, hn, hk, hl, ht, he => by
    cases P with
    | nil => simp at hl
    | cons t r =>
      have ht0 := ht t (by simp)
      have h0 : ¬ ((ofB t).size = 0 ∨ (1 : Int) < 1) := by
        rw [ofB_size]
        have := List.length_pos_iff.2 ht0.1
        omega
      have hc := hn (ofB t)
      have h1 := addW_ok (L := X) h0 (by omega)
      have h2 := hX.add 1 (s := ofB t) (by rw [ofB_size]; exact ht0.2)
      rw [h1] at h2
      unfold addAllW
      rw [h1, if_pos rfl, addAll_upto r (putW (ofB t) (countOf X (ofB t) + 1) X) k (n + 1) h2 ?_ (by omega) (by simpa using hl) (fun u hu => ht u (by rw [List.take_succ_cons]; exact List.mem_cons_of_mem _ hu)) (fun h => by have := he (by simpa using h); simpa using this)]
      · simp only [List.take_succ_cons, List.length_cons, Nat.succ_lt_succ_iff]
        congr 1
        conv => rhs; unfold ofW
        rw [h1]
      · intro s
        rw [countOf_putW hX.1]
        split
        · omega
        · have := hn s; omega
set_option maxRecDepth 100000 in
theorem merge_len : ∀ (l X : Bag), (mergeW X l).1.length ≤ X.length + l.length
  | [], X => by simp [mergeW]
  | p :: r, X => by
    unfold mergeW
    split
    · have h1 := merge_len r (addW X p.1 p.2).1
      have h2 := len_addW X p.1 p.2
      simp only [List.length_cons]
      omega
    · simp
set_option maxRecDepth 100000 in
theorem len_ofW : ∀ (P : List (List UInt8)) (X : Bag), (ofW X P).length ≤ X.length + P.length
  | [], X => by simp [ofW]
  | t :: r, X => by
    have h1 := len_ofW r (addW X (ofB t) 1).1
    have h2 := len_addW X (ofB t) 1
    unfold ofW
    simp only [List.length_cons]
    omega
end Go.Proofs.Ytbacbgpemaldbaa
