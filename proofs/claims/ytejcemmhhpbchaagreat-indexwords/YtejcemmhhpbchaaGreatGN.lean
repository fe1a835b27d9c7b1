/- Texts in one: Bag, Merge. -/
import Derived.Test.YtejcemmhhpbchaaGreatMem
import Derived.Test.YtejcemmhhpbchaaGreatNums
import Derived.WideShapes
import Derived.Maps.Ext
import Derived.Lib.Bytealg
/- Words with counts, as plain lists that rise. -/
namespace Go.Proofs.YtejcemmhhpbchaaGreat

abbrev Bag := List (ByteArray × Int)
/-- Is a text ahead of another one? -/
def ahead (a b : ByteArray) : Bool := bytesBefore (bs a) (bs b)
set_option maxRecDepth 100000 in
theorem bs_inj {a b : ByteArray} (h : bs a = bs b) : a = b := by
  rw [← ba_eq a, ← ba_eq b]
  exact congrArg (fun l : List UInt8 => ByteArray.mk l.toArray) h
set_option maxRecDepth 100000 in
theorem ahead_irrefl (a : ByteArray) : ahead a a = false := WideAt.bytes_irrefl _
set_option maxRecDepth 100000 in
theorem ahead_trans {a b c : ByteArray} (h : ahead a b = true) (k : ahead b c = true) : ahead a c = true := WideShapes.bytes_trans _ _ _ h k
set_option maxRecDepth 100000 in
theorem ahead_total {a b : ByteArray} (h : a ≠ b) : ahead a b = true ∨ ahead b a = true := WideAt.bytes_total _ _ fun e => h (bs_inj e)
set_option maxRecDepth 100000 in
theorem ahead_ne {a b : ByteArray} (h : ahead a b = true) : a ≠ b := by rintro rfl; rw [ahead_irrefl] at h; cases h
set_option maxRecDepth 100000 in
theorem ahead_asymm {a b : ByteArray} (h : ahead a b = true) : ahead b a = false := by
  cases k : ahead b a
  · rfl
  · have := ahead_trans h k; rw [ahead_irrefl] at this; cases this
def Rising (L : Bag) : Prop := L.Pairwise fun p q => ahead p.1 q.1 = true
def countOf : Bag → ByteArray → Int
  | [], _ => 0
  | p :: r, s => if p.1 = s then p.2 else countOf r s
/-- A word laid in its place. -/
def putW (s : ByteArray) (c : Int) : Bag → Bag
  | [] => [(s, c)]
  | p :: r => if ahead p.1 s then p :: putW s c r else (s, c) :: (if p.1 = s then r else p :: r)
set_option maxRecDepth 100000 in
theorem mem_putW {s : ByteArray} {c : Int} : ∀ {L : Bag}, Rising L → ∀ p, p ∈ putW s c L ↔ p = (s, c) ∨ (p ∈ L ∧ p.1 ≠ s)
  | [], _, p => by simp [putW]
  | q :: r, h, p => by
    obtain ⟨h1, h2⟩ := List.pairwise_cons.1 h
    unfold putW
    split
    · rename_i ha
      rw [List.mem_cons, mem_putW h2 p, List.mem_cons]
      constructor
      · rintro (rfl | rfl | ⟨k, k'⟩)
        · exact .inr ⟨.inl rfl, ahead_ne ha⟩
        · exact .inl rfl
        · exact .inr ⟨.inr k, k'⟩
      · rintro (rfl | ⟨rfl | k, k'⟩)
        · exact .inr (.inl rfl)
        · exact .inl rfl
        · exact .inr (.inr ⟨k, k'⟩)
    · rename_i ha
      split
      · rename_i hs
        subst hs
        rw [List.mem_cons, List.mem_cons]
        constructor
        · rintro (rfl | k)
          · exact .inl rfl
          · exact .inr ⟨.inr k, (ahead_ne (h1 p k)).symm⟩
        · rintro (rfl | ⟨rfl | k, k'⟩)
          · exact .inl rfl
          · exact absurd rfl k'
          · exact .inr k
      · rename_i hs
        have hs' : ahead s q.1 = true := (ahead_total hs).resolve_left ha
        rw [List.mem_cons]
        constructor
        · rintro (rfl | k)
          · exact .inl rfl
          · refine .inr ⟨k, ?_⟩
            rcases List.mem_cons.1 k with rfl | k2
            · exact (ahead_ne hs').symm
            · exact (ahead_ne (ahead_trans hs' (h1 p k2))).symm
        · rintro (rfl | ⟨k, _⟩)
          · exact .inl rfl
          · exact .inr k
set_option maxRecDepth 100000 in
theorem rising_putW {s : ByteArray} {c : Int} : ∀ {L : Bag}, Rising L → Rising (putW s c L)
  | [], _ => by simp [putW, Rising]
  | q :: r, h => by
    obtain ⟨h1, h2⟩ := List.pairwise_cons.1 h
    unfold putW
    split
    · rename_i ha
      refine List.pairwise_cons.2 ⟨fun p hp => ?_, rising_putW h2⟩
      rcases (mem_putW h2 p).1 hp with rfl | ⟨k, _⟩
      · exact ha
      · exact h1 p k
    · rename_i ha
      split
      · rename_i hs
        subst hs
        exact List.pairwise_cons.2 ⟨fun p hp => h1 p hp, h2⟩
      · rename_i hs
        have hs' : ahead s q.1 = true := (ahead_total hs).resolve_left ha
        refine List.pairwise_cons.2 ⟨fun p hp => ?_, h⟩
        rcases List.mem_cons.1 hp with rfl | k2
        · exact hs'
        · exact ahead_trans hs' (h1 p k2)
set_option maxRecDepth 100000 in
theorem rising_ext : ∀ {A B : Bag}, Rising A → Rising B → (∀ p, p ∈ A ↔ p ∈ B) → A = B
  | [], [], _, _, _ => rfl
  | [], b :: _, _, _, h => by have := (h b).2 (List.mem_cons_self ..); simp at this
  | a :: _, [], _, _, h => by have := (h a).1 (List.mem_cons_self ..); simp at this
  | a :: A, b :: B, hA, hB, h => by
    obtain ⟨a1, a2⟩ := List.pairwise_cons.1 hA
    obtain ⟨b1, b2⟩ := List.pairwise_cons.1 hB
    have e : a = b := by
      rcases List.mem_cons.1 ((h a).1 (List.mem_cons_self ..)) with k | k
      · exact k
      · rcases List.mem_cons.1 ((h b).2 (List.mem_cons_self ..)) with k2 | k2
        · exact k2.symm
        · have := ahead_asymm (a1 b k2); rw [b1 a k] at this; cases this
    subst e
    rw [rising_ext a2 b2 fun p => ⟨fun hp => ?_, fun hp => ?_⟩]
    · rcases List.mem_cons.1 ((h p).1 (List.mem_cons_of_mem _ hp)) with rfl | k
      · exact absurd rfl (ahead_ne (a1 p hp))
      · exact k
    · rcases List.mem_cons.1 ((h p).2 (List.mem_cons_of_mem _ hp)) with rfl | k
      · exact absurd rfl (ahead_ne (b1 p hp))
      · exact k
set_option maxRecDepth 100000 in
theorem countOf_none {s : ByteArray} : ∀ {L : Bag}, (∀ p ∈ L, p.1 ≠ s) → countOf L s = 0
  | [], _ => rfl
  | q :: r, h => by
    unfold countOf
    rw [if_neg (h q (List.mem_cons_self ..))]
    exact countOf_none fun p hp => h p (List.mem_cons_of_mem _ hp)
set_option maxRecDepth 100000 in
theorem countOf_mem {s : ByteArray} {c : Int} : ∀ {L : Bag}, Rising L → (s, c) ∈ L → countOf L s = c
  | q :: r, h, hm => by
    obtain ⟨h1, h2⟩ := List.pairwise_cons.1 h
    unfold countOf
    rcases List.mem_cons.1 hm with rfl | k
    · rw [if_pos rfl]
    · rw [if_neg (ahead_ne (h1 _ k))]
      exact countOf_mem h2 k
set_option maxRecDepth 100000 in
theorem countOf_cases (L : Bag) (s : ByteArray) : (countOf L s = 0 ∧ ∀ p ∈ L, p.1 ≠ s) ∨ (s, countOf L s) ∈ L := by
  induction L with
  | nil => exact .inl ⟨rfl, by simp⟩
  | cons q r ih =>
    unfold countOf
    by_cases e : q.1 = s
    · subst e; rw [if_pos rfl]; exact .inr (List.mem_cons_self ..)
    · rw [if_neg e]
      rcases ih with ⟨h1, h2⟩ | h1
      · refine .inl ⟨h1, fun p hp => ?_⟩
        rcases List.mem_cons.1 hp with rfl | k
        · exact e
        · exact h2 p k
      · exact .inr (List.mem_cons_of_mem _ h1)
set_option maxRecDepth 100000 in
theorem countOf_putW {s t : ByteArray} {c : Int} {L : Bag} (h : Rising L) : countOf (putW s c L) t = if t = s then c else countOf L t := by
  by_cases e : t = s
  · subst e
    rw [if_pos rfl]
    exact countOf_mem (rising_putW h) ((mem_putW h _).2 (.inl rfl))
  · rw [if_neg e]
    rcases countOf_cases L t with ⟨h1, h2⟩ | h1
    · rw [h1]
      refine countOf_none fun p hp => ?_
      rcases (mem_putW h p).1 hp with rfl | ⟨k, _⟩
      · exact fun k => e k.symm
      · exact h2 p k
    · exact countOf_mem (rising_putW h) ((mem_putW h _).2 (.inr ⟨h1, e⟩))
set_option maxRecDepth 100000 in
theorem len_putW (s : ByteArray) (c : Int) : ∀ L : Bag, (putW s c L).length ≤ L.length + 1
  | [] => by simp [putW]
  | q :: r => by
    unfold putW
    split
    · have := len_putW s c r; simp only [List.length_cons]; omega
    · split <;> simp only [List.length_cons] <;> omega
/-! The datum of a map. -/
def ents (L : Bag) : List (Lit × DataW Unit) := L.map fun p => (Lit.string (bs p.1), DataW.lit (Lit.int .i64 p.2))
def bagD (L : Bag) : DataW Unit := .map (ents L)
set_option maxRecDepth 100000 in
theorem size_bagD (L : Bag) : Maps.size (bagD L) = L.length := by simp [bagD, ents, Maps.size]
set_option maxRecDepth 100000 in
theorem atKey_bagD (s : ByteArray) (z : DataW Unit) : ∀ L : Bag, (bagD L).atKey (.string (bs s)) z = if L.any (fun p => p.1 = s) then .lit (.int .i64 (countOf L s)) else z
  | [] => rfl
  | q :: r => by
    have ih := atKey_bagD s z r
    unfold bagD ents DataW.atKey at ih ⊢
    simp only [List.map_cons, List.find?_cons, List.any_cons] at ih ⊢
    by_cases e : q.1 = s
    · have : (Lit.string (bs s)).sameKey (.string (bs s)) = true := by simp [Lit.sameKey]
      simp only [this, e, decide_true, Bool.true_or, if_true]
      unfold countOf; rw [if_pos e]
    · have : (Lit.string (bs q.1)).sameKey (.string (bs s)) = false := by
        simp only [Lit.sameKey]
        exact beq_eq_false_iff_ne.2 fun k => e (bs_inj k)
      simp only [this, e, decide_false, Bool.false_or]
      unfold countOf; rw [if_neg e]
      exact ih
set_option maxRecDepth 100000 in
theorem atKey_count (s : ByteArray) (L : Bag) : (bagD L).atKey (.string (bs s)) (.lit (.int .i64 0)) = .lit (.int .i64 (countOf L s)) := by
  rw [atKey_bagD]
  split
  · rfl
  · rename_i h
    rw [countOf_none]
    intro p hp e
    exact h (List.any_eq_true.2 ⟨p, hp, by simp [e]⟩)
set_option maxRecDepth 100000 in
theorem mem_of_atKey {s : ByteArray} {c : Int} {L : Bag} (h : ∀ z, (bagD L).atKey (.string (bs s)) z = .lit (.int .i64 c)) : (s, c) ∈ L := by
  have h0 := h .nil
  rw [atKey_bagD] at h0
  split at h0
  · rename_i hk
    simp only [DataW.lit.injEq, Lit.int.injEq, true_and] at h0
    rcases countOf_cases L s with ⟨_, h2⟩ | h2
    · obtain ⟨p, hp, e⟩ := List.any_eq_true.1 hk
      exact absurd (of_decide_eq_true e) (h2 p hp)
    · rwa [h0] at h2
  · cases h0
set_option maxRecDepth 100000 in
theorem insert_head {x : Lit × DataW Unit} : ∀ {l : List (Lit × DataW Unit)}, (∀ y ∈ l, x.1.before y.1 = true) → DataW.insert x l = x :: l
  | [], _ => rfl
  | y :: r, h => by unfold DataW.insert; rw [if_pos (h y (List.mem_cons_self ..))]
set_option maxRecDepth 100000 in
theorem filter_ents {s : ByteArray} {L : Bag} (h : ∀ p ∈ L, p.1 ≠ s) : (ents L).filter (fun p => !p.1.sameKey (.string (bs s))) = ents L := by
  refine List.filter_eq_self.2 fun p hp => ?_
  obtain ⟨q, hq, rfl⟩ := List.mem_map.1 hp
  simp only [Lit.sameKey, Bool.not_eq_true', beq_eq_false_iff_ne]
  exact fun e => h q hq (bs_inj e)
set_option maxRecDepth 100000 in
theorem ents_before {s : ByteArray} {c : DataW Unit} {L : Bag} (h : ∀ p ∈ L, ahead s p.1 = true) : ∀ y ∈ ents L, ((Lit.string (bs s), c) : Lit × DataW Unit).1.before y.1 = true := by
  intro y hy
  obtain ⟨q, hq, rfl⟩ := List.mem_map.1 hy
  exact h q hq
set_option maxRecDepth 100000 in
theorem put_ents (s : ByteArray) (c : Int) : ∀ {L : Bag}, Rising L → DataW.insert (.string (bs s), .lit (.int .i64 c)) ((ents L).filter (fun p => !p.1.sameKey (.string (bs s)))) = ents (putW s c L)
  | [], _ => rfl
  | q :: r, h => by
    obtain ⟨h1, h2⟩ := List.pairwise_cons.1 h
    have ih := put_ents s c h2
    have e0 : ents (q :: r) = (Lit.string (bs q.1), DataW.lit (Lit.int .i64 q.2)) :: ents r := rfl
    rw [e0, List.filter_cons]
    unfold putW
    split <;> rename_i hk
    · have hne : q.1 ≠ s := by
        intro e
        simp [Lit.sameKey, e] at hk
      split
      · rename_i ha
        have hb : (Lit.string (bs s)).before (Lit.string (bs q.1)) = false := ahead_asymm ha
        rw [DataW.insert, hb]
        simp only [Bool.false_eq_true, if_false]
        rw [ih]; rfl
      · rename_i ha
        have hs' : ahead s q.1 = true := (ahead_total hne).resolve_left ha
        have hr : ∀ p ∈ r, ahead s p.1 = true := fun p hp => ahead_trans hs' (h1 p hp)
        rw [filter_ents fun p hp => (ahead_ne (hr p hp)).symm]
        rw [insert_head]
        · rfl
        · intro y hy
          rcases List.mem_cons.1 hy with rfl | k
          · exact hs'
          · exact ents_before hr y k
    · have he : q.1 = s := by
        simp only [Lit.sameKey, Bool.not_eq_true', Bool.not_eq_false, beq_iff_eq] at hk
        exact bs_inj hk
      subst he
      rw [if_neg (by rw [ahead_irrefl]; simp), if_pos rfl, filter_ents fun p hp => (ahead_ne (h1 p hp)).symm, insert_head (ents_before h1)]
      rfl
set_option maxRecDepth 100000 in
theorem put_bagD {s : ByteArray} {c : Int} {L : Bag} (h : Rising L) : (bagD L).put (.string (bs s)) (.lit (.int .i64 c)) = bagD (putW s c L) := by
  unfold bagD DataW.put
  simp only
  rw [put_ents s c h]
/-! What a range over the map has told. -/
set_option maxRecDepth 100000 in
theorem has_bagD {L : Bag} {p : ByteArray × Int} (h : p ∈ L) : Maps.has (bagD L) (.string (bs p.1)) = true := by
  unfold bagD
  rw [Maps.has_eq]
  exact List.any_eq_true.2 ⟨_, List.mem_map.2 ⟨p, h, rfl⟩, by simp [Lit.sameKey]⟩
def toldOf (L : Bag) (left : Lit → Bool) : Bag := L.filter fun p => !left (.string (bs p.1))
set_option maxRecDepth 100000 in
theorem told_start (L : Bag) : toldOf L (Maps.has (bagD L)) = [] := by
  refine List.filter_eq_nil_iff.2 fun p hp => ?_
  rw [has_bagD hp]; simp
set_option maxRecDepth 100000 in
theorem told_end {L : Bag} {left : Lit → Bool} (h : ∀ k, left k = false) : toldOf L left = L := by
  refine List.filter_eq_self.2 fun p _ => ?_
  rw [h]; rfl
set_option maxRecDepth 100000 in
theorem told_step {left : Lit → Bool} {s : ByteArray} {c : Int} (hl : left (.string (bs s)) = true) : ∀ {L : Bag}, Rising L → (s, c) ∈ L →
    (toldOf L fun z => left z && !z.sameKey (.string (bs s))).Perm ((s, c) :: toldOf L left)
  | q :: r, h, hm => by
    obtain ⟨h1, h2⟩ := List.pairwise_cons.1 h
    unfold toldOf
    rw [List.filter_cons, List.filter_cons]
    rcases List.mem_cons.1 hm with rfl | k
    · have e1 : (!(left (.string (bs s)) && !(Lit.string (bs s)).sameKey (.string (bs s)))) = true := by simp [Lit.sameKey]
      have e2 : (!left (.string (bs s))) = false := by rw [hl]; rfl
      rw [if_pos e1, if_neg (by rw [e2]; simp)]
      refine List.Perm.cons _ ?_
      rw [List.filter_congr (q := fun p => !left (.string (bs p.1)))]
      intro p hp
      have : (Lit.string (bs p.1)).sameKey (.string (bs s)) = false := by
        simp only [Lit.sameKey]
        exact beq_eq_false_iff_ne.2 fun e => (ahead_ne (h1 p hp)) (bs_inj e).symm
      simp only [this]; simp
    · have hne := ahead_ne (h1 _ k)
      have : (Lit.string (bs q.1)).sameKey (.string (bs s)) = false := by
        simp only [Lit.sameKey]
        exact beq_eq_false_iff_ne.2 fun e => hne (bs_inj e)
      have ih := told_step hl h2 k
      unfold toldOf at ih
      simp only [this, Bool.not_false, Bool.and_true]
      split
      · exact (List.Perm.cons _ ih).trans (List.Perm.swap ..)
      · exact ih
set_option maxRecDepth 100000 in
/-- Sorted, a permutation of a list that rises is that list. -/
theorem sorted_rising {L M : Bag} (h : Rising L) (hp : M.Perm L) (hs : M.Pairwise fun p q => ahead q.1 p.1 = false) : M = L := by
  have hd : M.Pairwise fun p q => p.1 ≠ q.1 := (hp.pairwise_iff fun {a b} (k : a.1 ≠ b.1) => k.symm).2 (h.imp fun k => ahead_ne k)
  refine rising_ext ?_ h fun p => hp.mem_iff
  have := hs.and hd
  refine this.imp fun {a b} k => ?_
  exact (ahead_total k.2).resolve_right (by rw [k.1]; simp)
set_option maxRecDepth 100000 in
theorem before_cmp : ∀ a b : List UInt8, decide (Lib.compareBytes a b < 0) = bytesBefore a b
  | [], [] => rfl
  | [], _ :: _ => rfl
  | _ :: _, [] => rfl
  | x :: a, y :: b => by
    have ih := before_cmp a b
    unfold Lib.compareBytes bytesBefore
    by_cases h1 : x < y
    · simp [h1]
    · by_cases h2 : y < x
      · have : ¬ x = y := fun e => by subst e; exact h1 h2
        simp [h1, h2, this]
      · have e : x = y := by
          have a1 := UInt8.not_lt.1 h1
          have a2 := UInt8.not_lt.1 h2
          exact UInt8.le_antisymm a2 a1
        subst e
        simp [h1, ih]
set_option maxRecDepth 100000 in
theorem text_ne {a b : ByteArray} (h : a ≠ b) : (a.toList == b.toList) = false := by
  refine beq_eq_false_iff_ne.2 fun e => h (bs_inj ?_)
  rwa [ByteArray.toList_eq, ByteArray.toList_eq] at e
end Go.Proofs.YtejcemmhhpbchaaGreat
/- Adding words, as the document says it, on plain lists. -/
namespace Go.Proofs.YtejcemmhhpbchaaGreat

/-- A word that is there so many times more; else an error's number. -/
def addW (L : Bag) (s : ByteArray) (n : Int) : Bag × Int :=
  if s.size = 0 ∨ n < 1 then (L, 1) else if countOf L s + n ≤ 9223372036854775807 then (putW s (countOf L s + n) L, 0) else (L, 5)
set_option maxRecDepth 100000 in
theorem addW_arg {L : Bag} {s : ByteArray} {n : Int} (h : s.size = 0 ∨ n < 1) : addW L s n = (L, 1) := if_pos h
set_option maxRecDepth 100000 in
theorem addW_over {L : Bag} {s : ByteArray} {n : Int} (h : ¬ (s.size = 0 ∨ n < 1)) (k : ¬ countOf L s + n ≤ 9223372036854775807) : addW L s n = (L, 5) := by unfold addW; rw [if_neg h, if_neg k]
set_option maxRecDepth 100000 in
theorem addW_ok {L : Bag} {s : ByteArray} {n : Int} (h : ¬ (s.size = 0 ∨ n < 1)) (k : countOf L s + n ≤ 9223372036854775807) : addW L s n = (putW s (countOf L s + n) L, 0) := by unfold addW; rw [if_neg h, if_pos k]
/-- A counter's words: rising, counts within. -/
def Sound (L : Bag) : Prop := Rising L ∧ ∀ p ∈ L, 1 ≤ p.2 ∧ p.2 ≤ 9223372036854775807 ∧ p.1.size ≤ 9223372036854775807
set_option maxRecDepth 100000 in
theorem sound_nil : Sound [] := ⟨List.Pairwise.nil, by simp⟩
set_option maxRecDepth 100000 in
theorem Sound.count {L : Bag} (h : Sound L) (s : ByteArray) : 0 ≤ countOf L s ∧ countOf L s ≤ 9223372036854775807 := by
  rcases countOf_cases L s with ⟨h1, _⟩ | h1
  · rw [h1]; omega
  · have := h.2 _ h1
    simp only at this; omega
set_option maxRecDepth 100000 in
theorem Sound.add {L : Bag} (h : Sound L) {s : ByteArray} (n : Int) (hs : s.size ≤ 9223372036854775807) : Sound (addW L s n).1 := by
  unfold addW
  split
  · exact h
  · split
    · refine ⟨rising_putW h.1, fun p hp => ?_⟩
      rcases (mem_putW h.1 p).1 hp with rfl | ⟨k, _⟩
      · have := h.count s
        exact ⟨by simp only; omega, by simp only; omega, hs⟩
      · exact h.2 p k
    · exact h
set_option maxRecDepth 100000 in
theorem len_addW (L : Bag) (s : ByteArray) (n : Int) : (addW L s n).1.length ≤ L.length + 1 := by
  unfold addW
  split
  · simp
  · split
    · exact len_putW s _ L
    · simp
set_option maxRecDepth 100000 in
theorem addW_err (L : Bag) (s : ByteArray) (n : Int) : (addW L s n).2 = 0 ∨ ((addW L s n).1 = L ∧ ((addW L s n).2 = 1 ∨ (addW L s n).2 = 5)) := by
  unfold addW
  split
  · exact .inr ⟨rfl, .inl rfl⟩
  · split
    · exact .inl rfl
    · exact .inr ⟨rfl, .inr rfl⟩
/-! The document's own way: a list, word by word. -/
def refStep (s : ByteArray) (c : Int) (a : Bag × Bool) (p : ByteArray × Int) : Bag × Bool :=
  let b := if !a.2 && !ahead p.1 s then (a.1 ++ [(s, c)], true) else a
  (if p.1 = s then b.1 else b.1 ++ [p], b.2)
def refEnd (s : ByteArray) (c : Int) (a : Bag × Bool) : Bag := if a.2 then a.1 else a.1 ++ [(s, c)]
set_option maxRecDepth 100000 in
theorem ref_done (s : ByteArray) (c : Int) : ∀ (L A : Bag), (∀ p ∈ L, p.1 ≠ s) → L.foldl (refStep s c) (A, true) = (A ++ L, true)
  | [], A, _ => by simp
  | q :: r, A, h => by
    rw [List.foldl_cons]
    have : refStep s c (A, true) q = (A ++ [q], true) := by simp [refStep, h q (List.mem_cons_self ..)]
    rw [this, ref_done s c r _ fun p hp => h p (List.mem_cons_of_mem _ hp)]
    simp
set_option maxRecDepth 100000 in
theorem ref_put (s : ByteArray) (c : Int) : ∀ (L A : Bag), Rising L → refEnd s c (L.foldl (refStep s c) (A, false)) = A ++ putW s c L
  | [], A, _ => rfl
  | q :: r, A, h => by
    obtain ⟨h1, h2⟩ := List.pairwise_cons.1 h
    rw [List.foldl_cons]
    unfold putW
    by_cases ha : ahead q.1 s = true
    · have : refStep s c (A, false) q = (A ++ [q], false) := by simp [refStep, ha, ahead_ne ha]
      rw [this, ref_put s c r _ h2, if_pos ha]
      simp
    · have ha' : ahead q.1 s = false := by simpa using ha
      by_cases e : q.1 = s
      · have : refStep s c (A, false) q = (A ++ [(s, c)], true) := by simp [refStep, e, ahead_irrefl]
        rw [this, ref_done s c r _ fun p hp => by rw [← e]; exact (ahead_ne (h1 p hp)).symm, if_neg ha, if_pos e]
        simp [refEnd]
      · have : refStep s c (A, false) q = (A ++ [(s, c)] ++ [q], true) := by simp [refStep, ha', e]
        have hs' : ahead s q.1 = true := (ahead_total e).resolve_left ha
        rw [this, ref_done s c r _ fun p hp => (ahead_ne (ahead_trans hs' (h1 p hp))).symm, if_neg ha, if_neg e]
        simp [refEnd]
/-! Many words. -/
/-- All words of a list, one by one; at an error none. -/
def mergeW (X : Bag) : Bag → Bag × Int
  | [] => (X, 0)
  | p :: r => if (addW X p.1 p.2).2 = 0 then mergeW (addW X p.1 p.2).1 r else ([], (addW X p.1 p.2).2)
set_option maxRecDepth 100000 in
theorem merge_next {X L : Bag} {k : Nat} (hk : k < L.length) (h : (addW X L[k].1 L[k].2).2 = 0) : mergeW X (L.drop k) = mergeW (addW X L[k].1 L[k].2).1 (L.drop (k + 1)) := by
  rw [List.drop_eq_getElem_cons hk]
  conv => lhs; unfold mergeW
  rw [if_pos h]
set_option maxRecDepth 100000 in
theorem merge_stop {X L : Bag} {k : Nat} (hk : k < L.length) (h : (addW X L[k].1 L[k].2).2 ≠ 0) : mergeW X (L.drop k) = ([], (addW X L[k].1 L[k].2).2) := by
  rw [List.drop_eq_getElem_cons hk]
  conv => lhs; unfold mergeW
  rw [if_neg h]
set_option maxRecDepth 100000 in
theorem merge_end {X L : Bag} {k : Nat} (hk : L.length ≤ k) : mergeW X (L.drop k) = (X, 0) := by
  rw [List.drop_eq_nil_of_le hk]; rfl
/-- Can it be added? -/
def CanAdd (X : Bag) (p : ByteArray × Int) : Prop := p.1.size ≠ 0 ∧ 1 ≤ p.2 ∧ countOf X p.1 + p.2 ≤ 9223372036854775807
set_option maxRecDepth 100000 in
theorem can_iff (X : Bag) (p : ByteArray × Int) : (addW X p.1 p.2).2 = 0 ↔ CanAdd X p := by
  unfold addW CanAdd
  split
  · rename_i h; constructor
    · intro k; simp at k
    · intro k; omega
  · rename_i h
    split
    · rename_i k; exact ⟨fun _ => ⟨by omega, by omega, k⟩, fun _ => rfl⟩
    · rename_i k; exact ⟨fun x => by simp at x, fun x => absurd x.2.2 k⟩
set_option maxRecDepth 100000 in
theorem can_add {X : Bag} {p : ByteArray × Int} (h : CanAdd X p) : (addW X p.1 p.2).1 = putW p.1 (countOf X p.1 + p.2) X := by
  unfold CanAdd at h
  rw [addW_ok (by omega) h.2.2]
def Alike (a b : Bag × Int) : Prop := a.1 = b.1 ∧ (a.2 = 0 ↔ b.2 = 0)
set_option maxRecDepth 100000 in
theorem can_swap {X : Bag} (h : Sound X) {p q : ByteArray × Int} (hp : CanAdd X p) (hq : CanAdd (putW p.1 (countOf X p.1 + p.2) X) q) :
    CanAdd X q ∧ CanAdd (putW q.1 (countOf X q.1 + q.2) X) p ∧ putW q.1 (countOf (putW p.1 (countOf X p.1 + p.2) X) q.1 + q.2) (putW p.1 (countOf X p.1 + p.2) X) = putW p.1 (countOf (putW q.1 (countOf X q.1 + q.2) X) p.1 + p.2) (putW q.1 (countOf X q.1 + q.2) X) := by
  unfold CanAdd at hp hq ⊢
  rw [countOf_putW h.1] at hq ⊢
  rw [countOf_putW h.1]
  have c1 := h.count p.1
  by_cases e : q.1 = p.1
  · rw [e] at hq ⊢
    simp only [if_true] at hq ⊢
    refine ⟨by omega, by omega, ?_⟩
    refine rising_ext (rising_putW (rising_putW h.1)) (rising_putW (rising_putW h.1)) fun x => ?_
    rw [mem_putW (rising_putW h.1), mem_putW (rising_putW h.1), mem_putW h.1, mem_putW h.1]
    have e2 : countOf X p.1 + p.2 + q.2 = countOf X p.1 + q.2 + p.2 := by omega
    rw [e2]
    constructor
    · rintro (k | ⟨rfl | k, k'⟩)
      · exact .inl k
      · exact absurd rfl k'
      · exact .inr ⟨.inr k, k'⟩
    · rintro (k | ⟨rfl | k, k'⟩)
      · exact .inl k
      · exact absurd rfl k'
      · exact .inr ⟨.inr k, k'⟩
  · have e' : ¬ p.1 = q.1 := fun k => e k.symm
    rw [if_neg e] at hq ⊢
    rw [if_neg e']
    refine ⟨hq, hp, ?_⟩
    refine rising_ext (rising_putW (rising_putW h.1)) (rising_putW (rising_putW h.1)) fun x => ?_
    rw [mem_putW (rising_putW h.1), mem_putW (rising_putW h.1), mem_putW h.1, mem_putW h.1]
    constructor
    · rintro (rfl | ⟨rfl | ⟨k, k1⟩, k2⟩)
      · exact .inr ⟨.inl rfl, e⟩
      · exact .inl rfl
      · exact .inr ⟨.inr ⟨k, k2⟩, k1⟩
    · rintro (rfl | ⟨rfl | ⟨k, k1⟩, k2⟩)
      · exact .inr ⟨.inl rfl, e'⟩
      · exact .inl rfl
      · exact .inr ⟨.inr ⟨k, k2⟩, k1⟩
set_option maxRecDepth 100000 in
theorem merge_two (X : Bag) (p q : ByteArray × Int) (r : Bag) (h : CanAdd X p) (k : CanAdd (putW p.1 (countOf X p.1 + p.2) X) q) :
    mergeW X (p :: q :: r) = mergeW (putW q.1 (countOf (putW p.1 (countOf X p.1 + p.2) X) q.1 + q.2) (putW p.1 (countOf X p.1 + p.2) X)) r := by
  conv => lhs; unfold mergeW
  rw [if_pos ((can_iff X p).2 h), can_add h]
  conv => lhs; unfold mergeW
  rw [if_pos ((can_iff _ q).2 k), can_add k]
set_option maxRecDepth 100000 in
theorem merge_fails (X : Bag) (p q : ByteArray × Int) (r : Bag) (h : ¬ (CanAdd X p ∧ CanAdd (putW p.1 (countOf X p.1 + p.2) X) q)) : (mergeW X (p :: q :: r)).1 = [] ∧ (mergeW X (p :: q :: r)).2 ≠ 0 := by
  unfold mergeW
  split
  · rename_i h1
    have h1' := (can_iff X p).1 h1
    rw [can_add h1']
    unfold mergeW
    split
    · rename_i h2; exact absurd ⟨h1', (can_iff _ q).1 h2⟩ h
    · rename_i h2; exact ⟨rfl, h2⟩
  · rename_i h1; exact ⟨rfl, h1⟩
set_option maxRecDepth 100000 in
/-- In which order words come plays no part. -/
theorem merge_perm {l m : Bag} (h : l.Perm m) : ∀ {X : Bag}, Sound X → (∀ p ∈ l, p.1.size ≤ 9223372036854775807) → Alike (mergeW X l) (mergeW X m) := by
  induction h with
  | nil => intro X _ _; exact ⟨rfl, Iff.rfl⟩
  | cons p _ ih =>
    intro X hX hs
    unfold mergeW
    split
    · exact ih (hX.add _ (hs p (List.mem_cons_self ..))) fun q hq => hs q (List.mem_cons_of_mem _ hq)
    · exact ⟨rfl, Iff.rfl⟩
  | swap p q r =>
    intro X hX _
    by_cases h : CanAdd X q ∧ CanAdd (putW q.1 (countOf X q.1 + q.2) X) p
    · obtain ⟨h1, h2, h3⟩ := can_swap hX h.1 h.2
      rw [merge_two X q p r h.1 h.2, merge_two X p q r h1 h2, h3]
      exact ⟨rfl, Iff.rfl⟩
    · have h' : ¬ (CanAdd X p ∧ CanAdd (putW p.1 (countOf X p.1 + p.2) X) q) := fun k => by
        obtain ⟨h1, h2, _⟩ := can_swap hX k.1 k.2
        exact h ⟨h1, h2⟩
      obtain ⟨a1, a2⟩ := merge_fails X q p r h
      obtain ⟨b1, b2⟩ := merge_fails X p q r h'
      exact ⟨a1.trans b1.symm, ⟨fun k => absurd k a2, fun k => absurd k b2⟩⟩
  | trans h1 _ ih1 ih2 =>
    intro X hX hs
    obtain ⟨a1, a2⟩ := ih1 hX hs
    obtain ⟨b1, b2⟩ := ih2 hX fun p hp => hs p (h1.mem_iff.2 hp)
    exact ⟨a1.trans b1, a2.trans b2⟩
/-! Texts, each once. -/
def ofB (l : List UInt8) : ByteArray := ⟨l.toArray⟩
def addAllW (X : Bag) : List (List UInt8) → Bag × Int
  | [] => (X, 0)
  | t :: r => if (addW X (ofB t) 1).2 = 0 then addAllW (addW X (ofB t) 1).1 r else addW X (ofB t) 1
def ofW (X : Bag) : List (List UInt8) → Bag
  | [] => X
  | t :: r => ofW (addW X (ofB t) 1).1 r
set_option maxRecDepth 100000 in
theorem addAll_next {X : Bag} {P : List (List UInt8)} {k : Nat} (hk : k < P.length) (h : (addW X (ofB P[k]) 1).2 = 0) : addAllW X (P.drop k) = addAllW (addW X (ofB P[k]) 1).1 (P.drop (k + 1)) := by
  rw [List.drop_eq_getElem_cons hk]
  conv => lhs; unfold addAllW
  rw [if_pos h]
set_option maxRecDepth 100000 in
theorem addAll_stop {X : Bag} {P : List (List UInt8)} {k : Nat} (hk : k < P.length) (h : (addW X (ofB P[k]) 1).2 ≠ 0) : addAllW X (P.drop k) = addW X (ofB P[k]) 1 := by
  rw [List.drop_eq_getElem_cons hk]
  conv => lhs; unfold addAllW
  rw [if_neg h]
set_option maxRecDepth 100000 in
theorem addAll_end {X : Bag} {P : List (List UInt8)} {k : Nat} (hk : P.length ≤ k) : addAllW X (P.drop k) = (X, 0) := by
  rw [List.drop_eq_nil_of_le hk]; rfl
set_option maxRecDepth 100000 in
theorem of_next {X : Bag} {P : List (List UInt8)} {k : Nat} (hk : k < P.length) : ofW X (P.drop k) = ofW (addW X (ofB P[k]) 1).1 (P.drop (k + 1)) := by
  rw [List.drop_eq_getElem_cons hk]; rfl
set_option maxRecDepth 100000 in
theorem of_end {X : Bag} {P : List (List UInt8)} {k : Nat} (hk : P.length ≤ k) : ofW X (P.drop k) = X := by
  rw [List.drop_eq_nil_of_le hk]; rfl
set_option maxRecDepth 100000 in
theorem ofB_size (l : List UInt8) : (ofB l).size = l.length := by simp [ofB, ByteArray.size]
set_option maxRecDepth 100000 in
/-- Few texts can all be added, up to an empty one. -/
theorem addAll_upto : ∀ (P : List (List UInt8)) (X : Bag) (k : Nat) (n : Int), Sound X → (∀ s, countOf X s ≤ n) → n + k ≤ 9223372036854775807 → k ≤ P.length → (∀ t ∈ P.take k, t ≠ [] ∧ t.length ≤ 9223372036854775807) →
    (∀ h : k < P.length, P[k] = []) → addAllW X P = (ofW X (P.take k), if k < P.length then 1 else 0)
  | P, X, 0, n, _, _, _, _, _, he => by
    cases P with
    | nil => rfl
    | cons t r =>
      have e : t = [] := he (by simp)
      subst e
      unfold addAllW
      have h1 : addW X (ofB []) 1 = (X, 1) := addW_arg (.inl rfl)
      rw [h1]
      simp [ofW]
  | P, X, k + 1, n, hX, hn, hk, hl, ht, he => by
    cases P with
    | nil => simp at hl
    | cons t r =>
      have ht0 := ht t (by simp)
      have h0 : ¬ ((ofB t).size = 0 ∨ (1 : Int) < 1) := by
        rw [ofB_size]
        have := List.length_pos_iff.2 ht0.1
        omega
      have hc := hn (ofB t)
      have h1 := addW_ok (L := X) h0 (by omega)
      have h2 := hX.add 1 (s := ofB t) (by rw [ofB_size]; exact ht0.2)
      rw [h1] at h2
      unfold addAllW
      rw [h1, if_pos rfl, addAll_upto r (putW (ofB t) (countOf X (ofB t) + 1) X) k (n + 1) h2 ?_ (by omega) (by simpa using hl) (fun u hu => ht u (by rw [List.take_succ_cons]; exact List.mem_cons_of_mem _ hu)) (fun h => by have := he (by simpa using h); simpa using this)]
      · simp only [List.take_succ_cons, List.length_cons, Nat.succ_lt_succ_iff]
        congr 1
        conv => rhs; unfold ofW
        rw [h1]
      · intro s
        rw [countOf_putW hX.1]
        split
        · omega
        · have := hn s; omega
set_option maxRecDepth 100000 in
theorem merge_len : ∀ (l X : Bag), (mergeW X l).1.length ≤ X.length + l.length
  | [], X => by simp [mergeW]
  | p :: r, X => by
    unfold mergeW
    split
    · have h1 := merge_len r (addW X p.1 p.2).1
      have h2 := len_addW X p.1 p.2
      simp only [List.length_cons]
      omega
    · simp
set_option maxRecDepth 100000 in
theorem len_ofW : ∀ (P : List (List UInt8)) (X : Bag), (ofW X P).length ≤ X.length + P.length
  | [], X => by simp [ofW]
  | t :: r, X => by
    have h1 := len_ofW r (addW X (ofB t) 1).1
    have h2 := len_addW X (ofB t) 1
    unfold ofW
    simp only [List.length_cons]
    omega
end Go.Proofs.YtejcemmhhpbchaaGreat
