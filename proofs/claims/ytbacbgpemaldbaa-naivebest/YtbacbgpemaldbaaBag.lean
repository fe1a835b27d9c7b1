/- Words with counts, as plain lists that rise. -/
import Derived.Test.YtbacbgpemaldbaaMem
import Derived.Test.YtbacbgpemaldbaaNums
import Derived.WideShapes
import Derived.Maps.Ext
import Derived.Lib.Bytealg
namespace Go.Proofs.Ytbacbgpemaldbaa

abbrev Bag := List (ByteArray × Int)
/-- Is a text ahead of another one? -/
def ahead (a b : ByteArray) : Bool := bytesBefore (bs a) (bs b)
set_option maxRecDepth 100000 in
theorem bs_inj {a b : ByteArray} (h : bs a = bs b) : a = b := by
  rw [← ba_eq a, ← ba_eq b]
  exact congrArg (fun l : List UInt8 => ByteArray.mk l.toArray) h
set_option maxRecDepth 100000 in
theorem ahead_irrefl (a : ByteArray) : ahead a a = false := WideAt.bytes_irrefl _
set_option maxRecDepth 100000 in
theorem ahead_trans {a b c : ByteArray} (h : ahead a b = true) (k : ahead b c = true) : ahead a c = true := WideShapes.bytes_trans _ _ _ h k
set_option maxRecDepth 100000 in
theorem ahead_total {a b : ByteArray} (h : a ≠ b) : ahead a b = true ∨ ahead b a = true := WideAt.bytes_total _ _ fun e => h (bs_inj e)
set_option maxRecDepth 100000 in
theorem ahead_ne {a b : ByteArray} (h : ahead a b = true) : a ≠ b := by rintro rfl; rw [ahead_irrefl] at h; cases h
set_option maxRecDepth 100000 in
theorem ahead_asymm {a b : ByteArray} (h : ahead a b = true) : ahead b a = false := by
  cases k : ahead b a
  · rfl
  · have := ahead_trans h k; rw [ahead_irrefl] at this; cases this
def Rising (L : Bag) : Prop := L.Pairwise fun p q => ahead p.1 q.1 = true
def countOf : Bag → ByteArray → Int
  | [], _ => 0
  | p :: r, s => if p.1 = s then p.2 else countOf r s
/-- A word laid in its place. -/
def putW (s : ByteArray) (c : Int) : Bag → Bag
  | [] => [(s, c)]
  | p :: r => if ahead p.1 s then p :: putW s c r else (s, c) :: (if p.1 = s then r else p :: r)
set_option maxRecDepth 100000 in
theorem mem_putW {s : ByteArray} {c : Int} : ∀ {L : Bag}, Rising L → ∀ p, p ∈ putW s c L ↔ p = (s, c) ∨ (p ∈ L ∧ p.1 ≠ s)
  | [], _, p => by simp [putW]
  | q :: r, h, p => by
    obtain ⟨h1, h2⟩ := List.pairwise_cons.1 h
    unfold putW
    split
    · rename_i ha
      rw [List.mem_cons, mem_putW h2 p, List.mem_cons]
      constructor
      · rintro (rfl | rfl | ⟨k, k'⟩)
        · exact .inr ⟨.inl rfl, ahead_ne ha⟩
        · exact .inl rfl
        · exact .inr ⟨.inr k, k'⟩
      · rintro (rfl | ⟨rfl | k, k'⟩)
        · exact .inr (.inl rfl)
        · exact .inl rfl
        · exact .inr (.inr ⟨k, k'⟩)
    · rename_i ha
      split
      · rename_i hs
        subst hs
        rw [List.mem_cons, List.mem_cons]
        constructor
        · rintro (rfl | k)
          · exact .inl rfl
          · exact .inr ⟨.inr k, (ahead_ne (h1 p k)).symm⟩
        · rintro (rfl | ⟨rfl | k, k'⟩)
          · exact .inl rfl
          · exact absurd rfl k'
          · exact .inr k
      · rename_i hs
        have hs' : ahead s q.1 = true := (ahead_total hs).resolve_left ha
        rw [List.mem_cons]
        constructor
        · rintro (rfl | k)
          · exact .inl rfl
          · refine .inr ⟨k, ?_⟩
            rcases List.mem_cons.1 k with rfl | k2
            · exact (ahead_ne hs').symm
            · exact (ahead_ne (ahead_trans hs' (h1 p k2))).symm
        · rintro (rfl | ⟨k, _⟩)
          · exact .inl rfl
          · exact .inr k
set_option maxRecDepth 100000 in
theorem rising_putW {s : ByteArray} {c : Int} : ∀ {L : Bag}, Rising L → Rising (putW s c L)
  | [], _ => by simp [putW, Rising]
  | q :: r, h => by
    obtain ⟨h1, h2⟩ := List.pairwise_cons.1 h
    unfold putW
    split
    · rename_i ha
      refine List.pairwise_cons.2 ⟨fun p hp => ?_, rising_putW h2⟩
      rcases (mem_putW h2 p).1 hp with rfl | ⟨k, _⟩
      · exact ha
      · exact h1 p k
    · rename_i ha
      split
      · rename_i hs
        subst hs
        exact List.pairwise_cons.2 ⟨fun p hp => h1 p hp, h2⟩
      · rename_i hs
        have hs' : ahead s q.1 = true := (ahead_total hs).resolve_left ha
        refine List.pairwise_cons.2 ⟨fun p hp => ?_, h⟩
        rcases List.mem_cons.1 hp with rfl | k2
        · exact hs'
        · exact ahead_trans hs' (h1 p k2)
set_option maxRecDepth 100000 in
theorem rising_ext : ∀ {A B : Bag}, Rising A → Rising B → (∀ p, p ∈ A ↔ p ∈ B) → A = B
  | [], [], _, _, _ => rfl
  | [], b :: _, _, _, h => by have := (h b).2 (List.mem_cons_self ..); simp at this
  | a :: _, [], _, _, h => by have := (h a).1 (List.mem_cons_self ..); simp at this
  | a :: A, b :: B, hA, hB, h => by
    obtain ⟨a1, a2⟩ := List.pairwise_cons.1 hA
    obtain ⟨b1, b2⟩ := List.pairwise_cons.1 hB
    have e : a = b := by
      rcases List.mem_cons.1 ((h a).1 (List.mem_cons_self ..)) with k | k
      · exact k
      · rcases List.mem_cons.1 ((h b).2 (List.mem_cons_self ..)) with k2 | k2
        · exact k2.symm
        · have := ahead_asymm (a1 b k2); rw [b1 a k] at this; cases this
    subst e
    rw [rising_ext a2 b2 fun p => ⟨fun hp => ?_, fun hp => ?_⟩]
    · rcases List.mem_cons.1 ((h p).1 (List.mem_cons_of_mem _ hp)) with rfl | k
      · exact absurd rfl (ahead_ne (a1 p hp))
      · exact k
    · rcases List.mem_cons.1 ((h p).2 (List.mem_cons_of_mem _ hp)) with rfl | k
      · exact absurd rfl (ahead_ne (b1 p hp))
      · exact k
set_option maxRecDepth 100000 in
theorem countOf_none {s : ByteArray} : ∀ {L : Bag}, (∀ p ∈ L, p.1 ≠ s) → countOf L s = 0
  | [], _ => rfl
  | q :: r, h => by
    unfold countOf
    rw [if_neg (h q (List.mem_cons_self ..))]
    exact countOf_none fun p hp => h p (List.mem_cons_of_mem _ hp)
set_option maxRecDepth 100000 in
theorem countOf_mem {s : ByteArray} {c : Int} : ∀ {L : Bag}, Rising L → (s, c) ∈ L → countOf L s = c
  | q :: r, h, hm => by
    obtain ⟨h1, h2⟩ := List.pairwise_cons.1 h
    unfold countOf
    rcases List.mem_cons.1 hm with rfl | k
    · rw [if_pos rfl]
    · rw [if_neg (ahead_ne (h1 _ k))]
      exact countOf_mem h2 k
set_option maxRecDepth 100000 in
theorem countOf_cases (L : Bag) (s : ByteArray) : (countOf L s = 0 ∧ ∀ p ∈ L, p.1 ≠ s) ∨ (s, countOf L s) ∈ L := by
  induction L with
  | nil => exact .inl ⟨rfl, by simp⟩
  | cons q r ih =>
    unfold countOf
    by_cases e : q.1 = s
    · subst e; rw [if_pos rfl]; exact .inr (List.mem_cons_self ..)
    · rw [if_neg e]
      rcases ih with ⟨h1, h2⟩ | h1
      · refine .inl ⟨h1, fun p hp => ?_⟩
        rcases List.mem_cons.1 hp with rfl | k
        · exact e
        · exact h2 p k
      · exact .inr (List.mem_cons_of_mem _ h1)
set_option maxRecDepth 100000 in
theorem countOf_putW {s t : ByteArray} {c : Int} {L : Bag} (h : Rising L) : countOf (putW s c L) t = if t = s then c else countOf L t := by
  by_cases e : t = s
  · subst e
    rw [if_pos rfl]
    exact countOf_mem (rising_putW h) ((mem_putW h _).2 (.inl rfl))
  · rw [if_neg e]
    rcases countOf_cases L t with ⟨h1, h2⟩ | h1
    · rw [h1]
      refine countOf_none fun p hp => ?_
      rcases (mem_putW h p).1 hp with rfl | ⟨k, _⟩
      · exact fun k => e k.symm
      · exact h2 p k
    · exact countOf_mem (rising_putW h) ((mem_putW h _).2 (.inr ⟨h1, e⟩))
set_option maxRecDepth 100000 in
theorem len_putW (s : ByteArray) (c : Int) : ∀ L : Bag, (putW s c L).length ≤ L.length + 1
  | [] => by simp [putW]
  | q :: r => by
    unfold putW
    split
    · have := len_putW s c r; simp only [List.length_cons]; omega
    · split <;> simp only [List.length_cons] <;> omega
/-! The datum of a map. -/
def ents (L : Bag) : List (Lit × DataW Unit) := L.map fun p => (Lit.string (bs p.1), DataW.lit (Lit.int .i64 p.2))
def bagD (L : Bag) : DataW Unit := .map (ents L)
set_option maxRecDepth 100000 in
theorem size_bagD (L : Bag) : Maps.size (bagD L) = L.length := by simp [bagD, ents, Maps.size]
set_option maxRecDepth 100000 in
theorem atKey_bagD (s : ByteArray) (z : DataW Unit) : ∀ L : Bag, (bagD L).atKey (.string (bs s)) z = if L.any (fun p => p.1 = s) then .lit (.int .i64 (countOf L s)) else z
  | [] => rfl
  | q :: r => by
    have ih := atKey_bagD s z r
    unfold bagD ents DataW.atKey at ih ⊢
    simp only [List.map_cons, List.find?_cons, List.any_cons] at ih ⊢
    by_cases e : q.1 = s
    · have : (Lit.string (bs s)).sameKey (.string (bs s)) = true := by simp [Lit.sameKey]
      simp only [this, e, decide_true, Bool.true_or, if_true]
      unfold countOf; rw [if_pos e]
    · have : (Lit.string (bs q.1)).sameKey (.string (bs s)) = false := by
        simp only [Lit.sameKey]
        exact beq_eq_false_iff_ne.2 fun k => e (bs_inj k)
      simp only [this, e, decide_false, Bool.false_or]
      unfold countOf; rw [if_neg e]
      exact ih
set_option maxRecDepth 100000 in
theorem atKey_count (s : ByteArray) (L : Bag) : (bagD L).atKey (.string (bs s)) (.lit (.int .i64 0)) = .lit (.int .i64 (countOf L s)) := by
  rw [atKey_bagD]
  split
  · rfl
  · rename_i h
    rw [countOf_none]
    intro p hp e
    exact h (List.any_eq_true.2 ⟨p, hp, by simp [e]⟩)
set_option maxRecDepth 100000 in
theorem mem_of_atKey {s : ByteArray} {c : Int} {L : Bag} (h : ∀ z, (bagD L).atKey (.string (bs s)) z = .lit (.int .i64 c)) : (s, c) ∈ L := by
  have h0 := h .nil
  rw [atKey_bagD] at h0
  split at h0
  · rename_i hk
    simp only [DataW.lit.injEq, Lit.int.injEq, true_and] at h0
    rcases countOf_cases L s with ⟨_, h2⟩ | h2
    · obtain ⟨p, hp, e⟩ := List.any_eq_true.1 hk
      exact absurd (of_decide_eq_true e) (h2 p hp)
    · rwa [h0] at h2
  · cases h0
set_option maxRecDepth 100000 in
theorem insert_head {x : Lit × DataW Unit} : ∀ {l : List (Lit × DataW Unit)}, (∀ y ∈ l, x.1.before y.1 = true) → DataW.insert x l = x :: l
  | [], _ => rfl
  | y :: r, h => by unfold DataW.insert; rw [if_pos (h y (List.mem_cons_self ..))]
set_option maxRecDepth 100000 in
theorem filter_ents {s : ByteArray} {L : Bag} (h : ∀ p ∈ L, p.1 ≠ s) : (ents L).filter (fun p => !p.1.sameKey (.string (bs s))) = ents L := by
  refine List.filter_eq_self.2 fun p hp => ?_
  obtain ⟨q, hq, rfl⟩ := List.mem_map.1 hp
  simp only [Lit.sameKey, Bool.not_eq_true', beq_eq_false_iff_ne]
  exact fun e => h q hq (bs_inj e)
set_option maxRecDepth 100000 in
theorem ents_before {s : ByteArray} {c : DataW Unit} {L : Bag} (h : ∀ p ∈ L, ahead s p.1 = true) : ∀ y ∈ ents L, ((Lit.string (bs s), c) : Lit × DataW Unit).1.before y.1 = true := by
  intro y hy
  obtain ⟨q, hq, rfl⟩ := List.mem_map.1 hy
  exact h q hq
set_option maxRecDepth 100000 in
theorem put_ents (s : ByteArray) (c : Int) : ∀ {L : Bag}, Rising L → DataW.insert (.string (bs s), .lit (.int .i64 c)) ((ents L).filter (fun p => !p.1.sameKey (.string (bs s)))) = ents (putW s c L)
  | [], _ => rfl
  | q :: r, h => by
    obtain ⟨h1, h2⟩ := List.pairwise_cons.1 h
    have ih := put_ents s c h2
    have e0 : ents (q :: r) = (Lit.string (bs q.1), DataW.lit (Lit.int .i64 q.2)) :: ents r := rfl
    rw [e0, List.filter_cons]
    unfold putW
    split <;> rename_i hk
    · have hne : q.1 ≠ s := by
        intro e
        simp [Lit.sameKey, e] at hk
      split
      · rename_i ha
        have hb : (Lit.string (bs s)).before (Lit.string (bs q.1)) = false := ahead_asymm ha
        rw [DataW.insert, hb]
        simp only [Bool.false_eq_true, if_false]
        rw [ih]; rfl
      · rename_i ha
        have hs' : ahead s q.1 = true := (ahead_total hne).resolve_left ha
        have hr : ∀ p ∈ r, ahead s p.1 = true := fun p hp => ahead_trans hs' (h1 p hp)
        rw [filter_ents fun p hp => (ahead_ne (hr p hp)).symm]
        rw [insert_head]
        · rfl
        · intro y hy
          rcases List.mem_cons.1 hy with rfl | k
          · exact hs'
          · exact ents_before hr y k
    · have he : q.1 = s := by
        simp only [Lit.sameKey, Bool.not_eq_true', Bool.not_eq_false, beq_iff_eq] at hk
        exact bs_inj hk
      subst he
      rw [if_neg (by rw [ahead_irrefl]; simp), if_pos rfl, filter_ents fun p hp => (ahead_ne (h1 p hp)).symm, insert_head (ents_before h1)]
      rfl
set_option maxRecDepth 100000 in
theorem put_bagD {s : ByteArray} {c : Int} {L : Bag} (h : Rising L) : (bagD L).put (.string (bs s)) (.lit (.int .i64 c)) = bagD (putW s c L) := by
  unfold bagD DataW.put
  simp only
  rw [put_ents s c h]
/-! What a range over the map has told. -/
set_option maxRecDepth 100000 in
theorem has_bagD {L : Bag} {p : ByteArray × Int} (h : p ∈ L) : Maps.has (bagD L) (.string (bs p.1)) = true := by
  unfold bagD
  rw [Maps.has_eq]
  exact List.any_eq_true.2 ⟨_, List.mem_map.2 ⟨p, h, rfl⟩, by simp [Lit.sameKey]⟩
def toldOf (L : Bag) (left : Lit → Bool) : Bag := L.filter fun p => !left (.string (bs p.1))
set_option maxRecDepth 100000 in
theorem told_start (L : Bag) : toldOf L (Maps.has (bagD L)) = [] := by
  refine List.filter_eq_nil_iff.2 fun p hp => ?_
  rw [has_bagD hp]; simp
set_option maxRecDepth 100000 in
theorem told_end {L : Bag} {left : Lit → Bool} (h : ∀ k, left k = false) : toldOf L left = L := by
  refine List.filter_eq_self.2 fun p _ => ?_
  rw [h]; rfl
set_option maxRecDepth 100000 in
theorem told_step {left : Lit → Bool} {s : ByteArray} {c : Int} (hl : left (.string (bs s)) = true) : ∀ {L : Bag}, Rising L → (s, c) ∈ L →
    (toldOf L fun z => left z && !z.sameKey (.string (bs s))).Perm ((s, c) :: toldOf L left)
  | q :: r, h, hm => by
    obtain ⟨h1, h2⟩ := List.pairwise_cons.1 h
    unfold toldOf
    rw [List.filter_cons, List.filter_cons]
    rcases List.mem_cons.1 hm with rfl | k
    · have e1 : (!(left (.string (bs s)) && !(Lit.string (bs s)).sameKey (.string (bs s)))) = true := by simp [Lit.sameKey]
      have e2 : (!left (.string (bs s))) = false := by rw [hl]; rfl
      rw [if_pos e1, if_neg (by rw [e2]; simp)]
      refine List.Perm.cons _ ?_
      rw [List.filter_congr (q := fun p => !left (.string (bs p.1)))]
      intro p hp
      have : (Lit.string (bs p.1)).sameKey (.string (bs s)) = false := by
        simp only [Lit.sameKey]
        exact beq_eq_false_iff_ne.2 fun e => (ahead_ne (h1 p hp)) (bs_inj e).symm
      simp only [this]; simp
    · have hne := ahead_ne (h1 _ k)
      have : (Lit.string (bs q.1)).sameKey (.string (bs s)) = false := by
        simp only [Lit.sameKey]
        exact beq_eq_false_iff_ne.2 fun e => hne (bs_inj e)
      have ih := told_step hl h2 k
      unfold toldOf at ih
      simp only [this, Bool.not_false, Bool.and_true]
      split
      · exact (List.Perm.cons _ ih).trans (List.Perm.swap ..)
      · exact ih
set_option maxRecDepth 100000 in
/-- Sorted, a permutation of a list that rises is that list. -/
theorem sorted_rising {L M : Bag} (h : Rising L) (hp : M.Perm L) (hs : M.Pairwise fun p q => ahead q.1 p.1 = false) : M = L := by
  have hd : M.Pairwise fun p q => p.1 ≠ q.1 := (hp.pairwise_iff fun {a b} (k : a.1 ≠ b.1) => k.symm).2 (h.imp fun k => ahead_ne k)
  refine rising_ext ?_ h fun p => hp.mem_iff
  have := hs.and hd
  refine this.imp fun {a b} k => ?_
  exact (ahead_total k.2).resolve_right (by rw [k.1]; simp)
set_option maxRecDepth 100000 in
theorem before_cmp : ∀ a b : List UInt8, decide (Lib.compareBytes a b < 0) = bytesBefore a b
  | [], [] => rfl
  | [], _ :: _ => rfl
  | _ :: _, [] => rfl
  | x :: a, y :: b => by
    have ih := before_cmp a b
    unfold Lib.compareBytes bytesBefore
    by_cases h1 : x < y
    · simp [h1]
    · by_cases h2 : y < x
      · have : ¬ x = y := fun e => by subst e; exact h1 h2
        simp [h1, h2, this]
      · have e : x = y := by
          have a1 := UInt8.not_lt.1 h1
          have a2 := UInt8.not_lt.1 h2
          exact UInt8.le_antisymm a2 a1
        subst e
        simp [h1, ih]
set_option maxRecDepth 100000 in
theorem text_ne {a b : ByteArray} (h : a ≠ b) : (a.toList == b.toList) = false := by
  refine beq_eq_false_iff_ne.2 fun e => h (bs_inj ?_)
  rwa [ByteArray.toList_eq, ByteArray.toList_eq] at e
end Go.Proofs.Ytbacbgpemaldbaa
