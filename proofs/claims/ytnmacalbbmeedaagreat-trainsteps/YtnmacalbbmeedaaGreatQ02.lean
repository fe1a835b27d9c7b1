/- Texts in one: Bag, NvP. -/
import Derived.Test.YtnmacalbbmeedaaGreatQ01
import Derived.WideShapes
import Derived.Maps.Ext
import Derived.Lib.Bytealg
/- Words with counts, as plain lists that rise. -/
namespace Go.Proofs.YtnmacalbbmeedaaGreat

abbrev Bag := List (ByteArray × Int)
/-- Is a text ahead of another one? -/
def ahead (a b : ByteArray) : Bool := bytesBefore (bs a) (bs b)
set_option maxRecDepth 100000 in
theorem bs_inj {a b : ByteArray} (h : bs a = bs b) : a = b := by
  rw [← ba_eq a, ← ba_eq b]
  exact congrArg (fun l : List UInt8 => ByteArray.mk l.toArray) h
set_option maxRecDepth 100000 in
theorem ahead_irrefl (a : ByteArray) : ahead a a = false := WideAt.bytes_irrefl _
set_option maxRecDepth 100000 in
theorem ahead_trans {a b c : ByteArray} (h : ahead a b = true) (k : ahead b c = true) : ahead a c = true := WideShapes.bytes_trans _ _ _ h k
set_option maxRecDepth 100000 in
theorem ahead_total {a b : ByteArray} (h : a ≠ b) : ahead a b = true ∨ ahead b a = true := WideAt.bytes_total _ _ fun e => h (bs_inj e)
set_option maxRecDepth 100000 in
theorem ahead_ne {a b : ByteArray} (h : ahead a b = true) : a ≠ b := by rintro rfl; rw [ahead_irrefl] at h; cases h
set_option maxRecDepth 100000 in
theorem ahead_asymm {a b : ByteArray} (h : ahead a b = true) : ahead b a = false := by
  cases k : ahead b a
  · rfl
  · have := ahead_trans h k; rw [ahead_irrefl] at this; cases this
def Rising (L : Bag) : Prop := L.Pairwise fun p q => ahead p.1 q.1 = true
def countOf : Bag → ByteArray → Int
  | [], _ => 0
  | p :: r, s => if p.1 = s then p.2 else countOf r s
/-- A word laid in its place. -/
def putW (s : ByteArray) (c : Int) : Bag → Bag
  | [] => [(s, c)]
  | p :: r => if ahead p.1 s then p :: putW s c r else (s, c) :: (if p.1 = s then r else p :: r)
set_option maxRecDepth 100000 in
theorem mem_putW {s : ByteArray} {c : Int} : ∀ {L : Bag}, Rising L → ∀ p, p ∈ putW s c L ↔ p = (s, c) ∨ (p ∈ L ∧ p.1 ≠ s)
  | [], _, p => by simp [putW]
  | q :: r, h, p => by
    obtain ⟨h1, h2⟩ := List.pairwise_cons.1 h
    unfold putW
    split
    · rename_i ha
      rw [List.mem_cons, mem_putW h2 p, List.mem_cons]
      constructor
      · rintro (rfl | rfl | ⟨k, k'⟩)
        · exact .inr ⟨.inl rfl, ahead_ne ha⟩
        · exact .inl rfl
        · exact .inr ⟨.inr k, k'⟩
      · rintro (rfl | ⟨rfl | k, k'⟩)
        · exact .inr (.inl rfl)
        · exact .inl rfl
        · exact .inr (.inr ⟨k, k'⟩)
    · rename_i ha
      split
      · rename_i hs
        subst hs
        rw [List.mem_cons, List.mem_cons]
        constructor
        · rintro (rfl | k)
          · exact .inl rfl
          · exact .inr ⟨.inr k, (ahead_ne (h1 p k)).symm⟩
        · rintro (rfl | ⟨rfl | k, k'⟩)
          · exact .inl rfl
          · exact absurd rfl k'
          · exact .inr k
      · rename_i hs
        have hs' : ahead s q.1 = true := (ahead_total hs).resolve_left ha
        rw [List.mem_cons]
        constructor
        · rintro (rfl | k)
          · exact .inl rfl
          · refine .inr ⟨k, ?_⟩
            rcases List.mem_cons.1 k with rfl | k2
            · exact (ahead_ne hs').symm
            · exact (ahead_ne (ahead_trans hs' (h1 p k2))).symm
        · rintro (rfl | ⟨k, _⟩)
          · exact .inl rfl
          · exact .inr k
set_option maxRecDepth 100000 in
theorem rising_putW {s : ByteArray} {c : Int} : ∀ {L : Bag}, Rising L → Rising (putW s c L)
  | [], _ => by simp [putW, Rising]
  | q :: r, h => by
    obtain ⟨h1, h2⟩ := List.pairwise_cons.1 h
    unfold putW
    split
    · rename_i ha
      refine List.pairwise_cons.2 ⟨fun p hp => ?_, rising_putW h2⟩
      rcases (mem_putW h2 p).1 hp with rfl | ⟨k, _⟩
      · exact ha
      · exact h1 p k
    · rename_i ha
      split
      · rename_i hs
        subst hs
        exact List.pairwise_cons.2 ⟨fun p hp => h1 p hp, h2⟩
      · rename_i hs
        have hs' : ahead s q.1 = true := (ahead_total hs).resolve_left ha
        refine List.pairwise_cons.2 ⟨fun p hp => ?_, h⟩
        rcases List.mem_cons.1 hp with rfl | k2
        · exact hs'
        · exact ahead_trans hs' (h1 p k2)
set_option maxRecDepth 100000 in
theorem countOf_none {s : ByteArray} : ∀ {L : Bag}, (∀ p ∈ L, p.1 ≠ s) → countOf L s = 0
  | [], _ => rfl
  | q :: r, h => by
    unfold countOf
    rw [if_neg (h q (List.mem_cons_self ..))]
    exact countOf_none fun p hp => h p (List.mem_cons_of_mem _ hp)
set_option maxRecDepth 100000 in
theorem countOf_cases (L : Bag) (s : ByteArray) : (countOf L s = 0 ∧ ∀ p ∈ L, p.1 ≠ s) ∨ (s, countOf L s) ∈ L := by
  induction L with
  | nil => exact .inl ⟨rfl, by simp⟩
  | cons q r ih =>
    unfold countOf
    by_cases e : q.1 = s
    · subst e; rw [if_pos rfl]; exact .inr (List.mem_cons_self ..)
    · rw [if_neg e]
      rcases ih with ⟨h1, h2⟩ | h1
      · refine .inl ⟨h1, fun p hp => ?_⟩
        rcases List.mem_cons.1 hp with rfl | k
        · exact e
        · exact h2 p k
      · exact .inr (List.mem_cons_of_mem _ h1)
set_option maxRecDepth 100000 in
theorem len_putW (s : ByteArray) (c : Int) : ∀ L : Bag, (putW s c L).length ≤ L.length + 1
  | [] => by simp [putW]
  | q :: r => by
    unfold putW
    split
    · have := len_putW s c r; simp only [List.length_cons]; omega
    · split <;> simp only [List.length_cons] <;> omega
/-! The datum of a map. -/
def ents (L : Bag) : List (Lit × DataW Unit) := L.map fun p => (Lit.string (bs p.1), DataW.lit (Lit.int .i64 p.2))
def bagD (L : Bag) : DataW Unit := .map (ents L)
set_option maxRecDepth 100000 in
theorem atKey_bagD (s : ByteArray) (z : DataW Unit) : ∀ L : Bag, (bagD L).atKey (.string (bs s)) z = if L.any (fun p => p.1 = s) then .lit (.int .i64 (countOf L s)) else z
  | [] => rfl
  | q :: r => by
    have ih := atKey_bagD s z r
    unfold bagD ents DataW.atKey at ih ⊢
    simp only [List.map_cons, List.find?_cons, List.any_cons] at ih ⊢
    by_cases e : q.1 = s
    · have : (Lit.string (bs s)).sameKey (.string (bs s)) = true := by simp [Lit.sameKey]
      simp only [this, e, decide_true, Bool.true_or, if_true]
      unfold countOf; rw [if_pos e]
    · have : (Lit.string (bs q.1)).sameKey (.string (bs s)) = false := by
        simp only [Lit.sameKey]
        exact beq_eq_false_iff_ne.2 fun k => e (bs_inj k)
      simp only [this, e, decide_false, Bool.false_or]
      unfold countOf; rw [if_neg e]
      exact ih
set_option maxRecDepth 100000 in
theorem atKey_count (s : ByteArray) (L : Bag) : (bagD L).atKey (.string (bs s)) (.lit (.int .i64 0)) = .lit (.int .i64 (countOf L s)) := by
  rw [atKey_bagD]
  split
  · rfl
  · rename_i h
    rw [countOf_none]
    intro p hp e
    exact h (List.any_eq_true.2 ⟨p, hp, by simp [e]⟩)
set_option maxRecDepth 100000 in
theorem insert_head {x : Lit × DataW Unit} : ∀ {l : List (Lit × DataW Unit)}, (∀ y ∈ l, x.1.before y.1 = true) → DataW.insert x l = x :: l
  | [], _ => rfl
  | y :: r, h => by unfold DataW.insert; rw [if_pos (h y (List.mem_cons_self ..))]
set_option maxRecDepth 100000 in
theorem filter_ents {s : ByteArray} {L : Bag} (h : ∀ p ∈ L, p.1 ≠ s) : (ents L).filter (fun p => !p.1.sameKey (.string (bs s))) = ents L := by
  refine List.filter_eq_self.2 fun p hp => ?_
  obtain ⟨q, hq, rfl⟩ := List.mem_map.1 hp
  simp only [Lit.sameKey, Bool.not_eq_true', beq_eq_false_iff_ne]
  exact fun e => h q hq (bs_inj e)
set_option maxRecDepth 100000 in
theorem ents_before {s : ByteArray} {c : DataW Unit} {L : Bag} (h : ∀ p ∈ L, ahead s p.1 = true) : ∀ y ∈ ents L, ((Lit.string (bs s), c) : Lit × DataW Unit).1.before y.1 = true := by
  intro y hy
  obtain ⟨q, hq, rfl⟩ := List.mem_map.1 hy
  exact h q hq
set_option maxRecDepth 100000 in
theorem put_ents (s : ByteArray) (c : Int) : ∀ {L : Bag}, Rising L → DataW.insert (.string (bs s), .lit (.int .i64 c)) ((ents L).filter (fun p => !p.1.sameKey (.string (bs s)))) = ents (putW s c L)
  | [], _ => rfl
  | q :: r, h => by
    obtain ⟨h1, h2⟩ := List.pairwise_cons.1 h
    have ih := put_ents s c h2
    have e0 : ents (q :: r) = (Lit.string (bs q.1), DataW.lit (Lit.int .i64 q.2)) :: ents r := rfl
    rw [e0, List.filter_cons]
    unfold putW
    split <;> rename_i hk
    · have hne : q.1 ≠ s := by
        intro e
        simp [Lit.sameKey, e] at hk
      split
      · rename_i ha
        have hb : (Lit.string (bs s)).before (Lit.string (bs q.1)) = false := ahead_asymm ha
        rw [DataW.insert, hb]
        simp only [Bool.false_eq_true, if_false]
        rw [ih]; rfl
      · rename_i ha
        have hs' : ahead s q.1 = true := (ahead_total hne).resolve_left ha
        have hr : ∀ p ∈ r, ahead s p.1 = true := fun p hp => ahead_trans hs' (h1 p hp)
        rw [filter_ents fun p hp => (ahead_ne (hr p hp)).symm]
        rw [insert_head]
        · rfl
        · intro y hy
          rcases List.mem_cons.1 hy with rfl | k
          · exact hs'
          · exact ents_before hr y k
    · have he : q.1 = s := by
        simp only [Lit.sameKey, Bool.not_eq_true', Bool.not_eq_false, beq_iff_eq] at hk
        exact bs_inj hk
      subst he
      rw [if_neg (by rw [ahead_irrefl]; simp), if_pos rfl, filter_ents fun p hp => (ahead_ne (h1 p hp)).symm, insert_head (ents_before h1)]
      rfl
set_option maxRecDepth 100000 in
theorem put_bagD {s : ByteArray} {c : Int} {L : Bag} (h : Rising L) : (bagD L).put (.string (bs s)) (.lit (.int .i64 c)) = bagD (putW s c L) := by
  unfold bagD DataW.put
  simp only
  rw [put_ents s c h]
set_option maxRecDepth 100000 in
theorem before_cmp : ∀ a b : List UInt8, decide (Lib.compareBytes a b < 0) = bytesBefore a b
  | [], [] => rfl
  | [], _ :: _ => rfl
  | _ :: _, [] => rfl
  | x :: a, y :: b => by
    have ih := before_cmp a b
    unfold Lib.compareBytes bytesBefore
    by_cases h1 : x < y
    · simp [h1]
    · by_cases h2 : y < x
      · have : ¬ x = y := fun e => by subst e; exact h1 h2
        simp [h1, h2, this]
      · have e : x = y := by
          have a1 := UInt8.not_lt.1 h1
          have a2 := UInt8.not_lt.1 h2
          exact UInt8.le_antisymm a2 a1
        subst e
        simp [h1, ih]
set_option maxRecDepth 100000 in
theorem text_ne {a b : ByteArray} (h : a ≠ b) : (a.toList == b.toList) = false := by
  refine beq_eq_false_iff_ne.2 fun e => h (bs_inj ?_)
  rwa [ByteArray.toList_eq, ByteArray.toList_eq] at e
end Go.Proofs.YtnmacalbbmeedaaGreat
/- Merges of texts, learnt by counting anew, as plain lists: what is learnt, that there is one such list alone, and that it is right. -/
namespace Go.Proofs.YtnmacalbbmeedaaGreat

abbrev Mg := ByteArray × ByteArray
/-- A word behind a merge. -/
def joinT (m : Mg) : List ByteArray → List ByteArray
  | x :: y :: r => if x = m.1 ∧ y = m.2 then (m.1 ++ m.2) :: joinT m r else x :: joinT m (y :: r)
  | [x] => [x]
  | [] => []
/-- How often a pair stands in a word (overlapping ones count). -/
def cntT (m : Mg) : List ByteArray → Nat
  | x :: y :: r => (if x = m.1 ∧ y = m.2 then 1 else 0) + cntT m (y :: r)
  | _ => 0
/-- How often in all words; counts below 1 and words without a count play no part. -/
def cntW (m : Mg) : List (List ByteArray) → List Int → Int
  | W :: R, c :: C => (if 1 ≤ c then (cntT m W : Int) * c else 0) + cntW m R C
  | _, _ => 0
/-- A merge is ahead of another one. -/
def aheadM (a b : Mg) : Bool := ahead a.1 b.1 || (decide (a.1 = b.1) && ahead a.2 b.2)
set_option maxRecDepth 100000 in
theorem aheadM_iff {a b : Mg} : aheadM a b = true ↔ ahead a.1 b.1 = true ∨ (a.1 = b.1 ∧ ahead a.2 b.2 = true) := by simp [aheadM]
set_option maxRecDepth 100000 in
theorem aheadM_irrefl (a : Mg) : aheadM a a = false := by
  rw [Bool.eq_false_iff, ne_eq, aheadM_iff]
  rintro (h | ⟨_, h⟩) <;> · rw [ahead_irrefl] at h; cases h
set_option maxRecDepth 100000 in
theorem aheadM_trans {a b c : Mg} (h : aheadM a b = true) (k : aheadM b c = true) : aheadM a c = true := by
  rw [aheadM_iff] at *
  rcases h with h | ⟨h1, h2⟩ <;> rcases k with k | ⟨k1, k2⟩
  · exact .inl (ahead_trans h k)
  · rw [k1] at h; exact .inl h
  · rw [← h1] at k; exact .inl k
  · exact .inr ⟨h1.trans k1, ahead_trans h2 k2⟩
set_option maxRecDepth 100000 in
theorem aheadM_asymm {a b : Mg} (h : aheadM a b = true) : aheadM b a = false := by
  cases k : aheadM b a with
  | false => rfl
  | true => have := aheadM_trans h k; rw [aheadM_irrefl] at this; cases this
set_option maxRecDepth 100000 in
theorem aheadM_total {a b : Mg} (h : a ≠ b) : aheadM a b = true ∨ aheadM b a = true := by
  rw [aheadM_iff, aheadM_iff]
  by_cases e : a.1 = b.1
  · have e2 : a.2 ≠ b.2 := fun k => h (Prod.ext e k)
    rcases ahead_total e2 with k | k
    · exact .inl (.inr ⟨e, k⟩)
    · exact .inr (.inr ⟨e.symm, k⟩)
  · rcases ahead_total e with k | k
    · exact .inl (.inl k)
    · exact .inr (.inl k)
def noM : Mg := (⟨#[]⟩, ⟨#[]⟩)
/-- The best merge and its count; zero ones: there is none. -/
def BestRel (W : List (List ByteArray)) (C : List Int) (m : Mg) (n : Int) : Prop :=
  (n = 0 ∧ m = noM ∧ ∀ m', cntW m' W C = 0) ∨ (1 ≤ n ∧ cntW m W C = n ∧ ∀ m', cntW m' W C ≤ n ∧ (cntW m' W C = n → m' ≠ m → aheadM m m' = true))
set_option maxRecDepth 100000 in
theorem best_uni {W : List (List ByteArray)} {C : List Int} {m m' : Mg} {n n' : Int} (h : BestRel W C m n) (h' : BestRel W C m' n') : m = m' ∧ n = n' := by
  rcases h with ⟨h1, h2, h3⟩ | ⟨h1, h2, h3⟩ <;> rcases h' with ⟨k1, k2, k3⟩ | ⟨k1, k2, k3⟩
  · exact ⟨h2.trans k2.symm, h1.trans k1.symm⟩
  · have := h3 m'; omega
  · have := k3 m; omega
  · have e1 := (h3 m').1
    have e2 := (k3 m).1
    have en : n = n' := by omega
    refine ⟨?_, en⟩
    refine Classical.byContradiction fun hne => ?_
    have a1 := (h3 m').2 (by omega) fun e => hne e.symm
    have a2 := (k3 m).2 (by omega) hne
    rw [aheadM_asymm a1] at a2
    cases a2
/-- The words behind merges. -/
def runT (W : List (List ByteArray)) : List Mg → List (List ByteArray)
  | [] => W
  | m :: r => runT (W.map (joinT m)) r
set_option maxRecDepth 100000 in
theorem runT_append (ms ks : List Mg) : ∀ W, runT W (ms ++ ks) = runT (runT W ms) ks := by
  induction ms with
  | nil => intro W; rfl
  | cons m r ih => intro W; exact ih _
set_option maxRecDepth 100000 in
theorem runT_snoc (W : List (List ByteArray)) (ms : List Mg) (m : Mg) : runT W (ms ++ [m]) = (runT W ms).map (joinT m) := runT_append ms [m] W
/-- What is learnt. -/
structure Learned (W : List (List ByteArray)) (C : List Int) (budget least : Int) (ms : List Mg) : Prop where
  each : ∀ i (h : i < ms.length), ∃ n, BestRel (runT W (ms.take i)) C ms[i] n ∧ least ≤ n
  len : (ms.length : Int) ≤ max budget 0
  stop : (ms.length : Int) = max budget 0 ∨ ∃ m n, BestRel (runT W ms) C m n ∧ n < least
set_option maxRecDepth 100000 in
theorem learned_take {W : List (List ByteArray)} {C : List Int} {b b' d : Int} {ms ks : List Mg} (h : Learned W C b d ms) (k : Learned W C b' d ks) : ∀ i, i ≤ ms.length → i ≤ ks.length → ms.take i = ks.take i := by
  intro i
  induction i with
  | zero => intro _ _; simp
  | succ i ih =>
    intro h1 h2
    have e := ih (by omega) (by omega)
    obtain ⟨n, a1, _⟩ := h.each i (by omega)
    obtain ⟨n', a2, _⟩ := k.each i (by omega)
    rw [e] at a1
    rw [List.take_succ_eq_append_getElem (by omega), List.take_succ_eq_append_getElem (by omega), e, (best_uni a1 a2).1]
set_option maxRecDepth 100000 in
/-- Where one list ends for want of a best merge the other one isn't longer. -/
theorem learned_stop {W : List (List ByteArray)} {C : List Int} {b' d d' : Int} {ms ks : List Mg} (hd : d ≤ d') (k : Learned W C b' d' ks) (he : ms = ks.take ms.length) {m : Mg} {n : Int} (hb : BestRel (runT W ms) C m n) (hn : n < d) : ks.length ≤ ms.length := by
  refine Classical.byContradiction fun hc => ?_
  obtain ⟨n', a1, a2⟩ := k.each ms.length (by omega)
  rw [← he] at a1
  have := (best_uni hb a1).2
  omega
set_option maxRecDepth 100000 in
theorem learned_uni {W : List (List ByteArray)} {C : List Int} {b d : Int} {ms ks : List Mg} (h : Learned W C b d ms) (k : Learned W C b d ks) : ms = ks := by
  have hl1 := h.len
  have hl2 := k.len
  have key : ms.length = ks.length := by
    rcases Nat.lt_trichotomy ms.length ks.length with hc | hc | hc
    · rcases h.stop with h1 | ⟨m, n, h1, h2⟩
      · omega
      · have e := learned_take h k ms.length (Nat.le_refl _) (by omega)
        rw [List.take_length] at e
        have := learned_stop (Int.le_refl d) k e h1 h2
        omega
    · exact hc
    · rcases k.stop with h1 | ⟨m, n, h1, h2⟩
      · omega
      · have e := learned_take k h ks.length (Nat.le_refl _) (by omega)
        rw [List.take_length] at e
        have := learned_stop (Int.le_refl d) h e h1 h2
        omega
  have := learned_take h k ms.length (Nat.le_refl _) (by omega)
  rw [List.take_length, key, List.take_length] at this
  exact this
set_option maxRecDepth 100000 in
/-- With a greater budget, or a lesser least count, the merges begin alike. -/
theorem learned_more {W : List (List ByteArray)} {C : List Int} {b b' d d' : Int} {ms ks : List Mg} (h : Learned W C b d ms) (k : Learned W C b' d' ks) (hb : b ≤ b') (hd : d' ≤ d) : ms = ks.take ms.length ∧ ms.length ≤ ks.length := by
  have take : ∀ i, i ≤ ms.length → i ≤ ks.length → ms.take i = ks.take i := by
    intro i
    induction i with
    | zero => intro _ _; simp
    | succ i ih =>
      intro h1 h2
      have e := ih (by omega) (by omega)
      obtain ⟨n, a1, _⟩ := h.each i (by omega)
      obtain ⟨n', a2, _⟩ := k.each i (by omega)
      rw [e] at a1
      rw [List.take_succ_eq_append_getElem (by omega), List.take_succ_eq_append_getElem (by omega), e, (best_uni a1 a2).1]
  have hl : ms.length ≤ ks.length := by
    refine Classical.byContradiction fun hc => ?_
    have e := take ks.length (by omega) (Nat.le_refl _)
    rw [List.take_length] at e
    rcases k.stop with h1 | ⟨m, n, h1, h2⟩
    · have := h.len; omega
    · obtain ⟨n', a1, a2⟩ := h.each ks.length (by omega)
      rw [e] at a1
      have := (best_uni h1 a1).2
      omega
  have e := take ms.length (Nat.le_refl _) hl
  rw [List.take_length] at e
  exact ⟨e, hl⟩
/-! Each merge takes a text away. -/
set_option maxRecDepth 100000 in
theorem joinT_len (m : Mg) : ∀ W : List ByteArray, (joinT m W).length ≤ W.length
  | [] => by simp [joinT]
  | [x] => by simp [joinT]
  | x :: y :: r => by
    unfold joinT
    split
    · have := joinT_len m r; simp only [List.length_cons]; omega
    · have := joinT_len m (y :: r); simp only [List.length_cons] at *; omega
set_option maxRecDepth 100000 in
theorem join_less (m : Mg) : ∀ W : List ByteArray, 1 ≤ cntT m W → (joinT m W).length < W.length
  | [], h => by simp [cntT] at h
  | [x], h => by simp [cntT] at h
  | x :: y :: r, h => by
    unfold joinT
    split
    · have := joinT_len m r; simp only [List.length_cons]; omega
    · rename_i hne
      unfold cntT at h
      rw [if_neg hne] at h
      have := join_less m (y :: r) (by omega)
      simp only [List.length_cons] at *; omega
def allT (W : List (List ByteArray)) : Nat := (W.map List.length).sum
set_option maxRecDepth 100000 in
theorem all_join_le (m : Mg) : ∀ W : List (List ByteArray), allT (W.map (joinT m)) ≤ allT W
  | [] => by simp [allT]
  | w :: r => by
    have := all_join_le m r
    have := joinT_len m w
    unfold allT at *
    simp only [List.map_cons, List.sum_cons]; omega
set_option maxRecDepth 100000 in
/-- A pair with a count stands in some word whose count is 1 or more. -/
theorem cnt_some {m : Mg} : ∀ {W : List (List ByteArray)} {C : List Int}, 1 ≤ cntW m W C → ∃ w ∈ W, 1 ≤ cntT m w
  | [], _, h => by simp [cntW] at h
  | _ :: _, [], h => by simp [cntW] at h
  | w :: R, c :: C, h => by
    unfold cntW at h
    by_cases hw : 1 ≤ cntT m w
    · exact ⟨w, List.mem_cons_self, hw⟩
    · have e : cntT m w = 0 := by omega
      rw [e] at h
      obtain ⟨v, h1, h2⟩ := cnt_some (m := m) (W := R) (C := C) (by simpa using h)
      exact ⟨v, List.mem_cons_of_mem _ h1, h2⟩
set_option maxRecDepth 100000 in
theorem all_join_lt {m : Mg} : ∀ {W : List (List ByteArray)}, (∃ w ∈ W, 1 ≤ cntT m w) → allT (W.map (joinT m)) < allT W
  | [], h => by obtain ⟨w, h, _⟩ := h; simp at h
  | w :: r, h => by
    obtain ⟨v, h1, h2⟩ := h
    have a1 := all_join_le m r
    have a2 := joinT_len m w
    rcases List.mem_cons.1 h1 with rfl | h1
    · have := join_less m v h2
      unfold allT at *
      simp only [List.map_cons, List.sum_cons]; omega
    · have := all_join_lt ⟨v, h1, h2⟩
      unfold allT at *
      simp only [List.map_cons, List.sum_cons]; omega
set_option maxRecDepth 100000 in
theorem BestRel.some {W : List (List ByteArray)} {C : List Int} {m : Mg} {n : Int} (h : BestRel W C m n) (hn : 1 ≤ n) : ∃ w ∈ W, 1 ≤ cntT m w := by
  rcases h with ⟨h1, _⟩ | ⟨_, h2, _⟩
  · omega
  · exact cnt_some (m := m) (W := W) (C := C) (by omega)
set_option maxRecDepth 100000 in
theorem learned_short {W : List (List ByteArray)} {C : List Int} {d : Int} {ms : List Mg} (hd : 1 ≤ d) (h : ∀ i (h : i < ms.length), ∃ n, BestRel (runT W (ms.take i)) C ms[i] n ∧ d ≤ n) : ∀ i, i ≤ ms.length → allT (runT W (ms.take i)) + i ≤ allT W := by
  intro i
  induction i with
  | zero => intro _; simp [runT]
  | succ i ih =>
    intro hi
    have h1 := ih (by omega)
    obtain ⟨n, a1, a2⟩ := h i (by omega)
    have h2 := all_join_lt (a1.some (by omega))
    rw [List.take_succ_eq_append_getElem (by omega), runT_snoc]
    omega
/-! Where a row of texts is parted, it was parted ahead of the merge. -/
set_option maxRecDepth 100000 in
theorem join_split (m : Mg) : ∀ (W P Q : List ByteArray), joinT m W = P ++ Q → ∃ A B, W = A ++ B ∧ joinT m A = P ∧ joinT m B = Q
  | [], P, Q, h => by
    have h' : P ++ Q = [] := by rw [← h]; rfl
    obtain ⟨rfl, rfl⟩ := List.append_eq_nil_iff.1 h'
    exact ⟨[], [], rfl, rfl, rfl⟩
  | [x], P, Q, h => by
    cases P with
    | nil => exact ⟨[], [x], rfl, rfl, h⟩
    | cons p P' =>
      have h' : [x] = p :: (P' ++ Q) := h
      obtain ⟨rfl, h2⟩ := List.cons.inj h'
      obtain ⟨rfl, rfl⟩ := List.append_eq_nil_iff.1 h2.symm
      exact ⟨[x], [], rfl, rfl, rfl⟩
  | x :: y :: r, P, Q, h => by
    cases P with
    | nil => exact ⟨[], x :: y :: r, rfl, rfl, h⟩
    | cons p P' =>
      unfold joinT at h
      by_cases hm : x = m.1 ∧ y = m.2
      · rw [if_pos hm] at h
        obtain ⟨h1, h2⟩ := List.cons.inj (show (m.1 ++ m.2) :: joinT m r = p :: (P' ++ Q) from h)
        obtain ⟨A, B, e1, e2, e3⟩ := join_split m r P' Q h2
        refine ⟨x :: y :: A, B, by rw [e1]; rfl, ?_, e3⟩
        unfold joinT
        rw [if_pos hm, e2, h1]
      · rw [if_neg hm] at h
        obtain ⟨h1, h2⟩ := List.cons.inj (show x :: joinT m (y :: r) = p :: (P' ++ Q) from h)
        obtain ⟨A, B, e1, e2, e3⟩ := join_split m (y :: r) P' Q h2
        refine ⟨x :: A, B, by rw [e1]; rfl, ?_, e3⟩
        cases A with
        | nil =>
          have : P' = [] := by rw [← e2]; rfl
          rw [this, h1]
          rfl
        | cons a A' =>
          obtain ⟨rfl, _⟩ := List.cons.inj (show y :: r = a :: (A' ++ B) from e1)
          rw [← h1, ← e2]
          exact if_neg hm
/-- One word behind merges. -/
def runW : List ByteArray → List Mg → List ByteArray
  | w, [] => w
  | w, m :: r => runW (joinT m w) r
set_option maxRecDepth 100000 in
theorem runW_append (ms ks : List Mg) : ∀ w, runW w (ms ++ ks) = runW (runW w ms) ks := by
  induction ms with
  | nil => intro w; rfl
  | cons m r ih => intro w; exact ih _
set_option maxRecDepth 100000 in
theorem runT_map (ms : List Mg) : ∀ W : List (List ByteArray), runT W ms = W.map fun w => runW w ms := by
  induction ms with
  | nil => intro W; simp [runT, runW]
  | cons m r ih => intro W; rw [runT, ih, List.map_map]; rfl
set_option maxRecDepth 100000 in
theorem run_split (ms : List Mg) : ∀ (W P Q : List ByteArray), runW W ms = P ++ Q → ∃ A B, W = A ++ B ∧ runW A ms = P ∧ runW B ms = Q := by
  induction ms with
  | nil => intro W P Q h; exact ⟨P, Q, h, rfl, rfl⟩
  | cons m r ih =>
    intro W P Q h
    obtain ⟨A, B, e1, e2, e3⟩ := ih _ P Q h
    obtain ⟨A', B', f1, f2, f3⟩ := join_split m W A B e1
    refine ⟨A', B', f1, ?_, ?_⟩
    · show runW (joinT m A') r = P
      rw [f2]; exact e2
    · show runW (joinT m B') r = Q
      rw [f3]; exact e3
/-! What a row of texts spells. -/
def spellT (W : List ByteArray) : List UInt8 := W.flatMap bs
set_option maxRecDepth 100000 in
theorem bs_app (a b : ByteArray) : bs (a ++ b) = bs a ++ bs b := by simp [bs]
set_option maxRecDepth 100000 in
theorem join_spell (m : Mg) : ∀ W : List ByteArray, spellT (joinT m W) = spellT W
  | [] => rfl
  | [x] => rfl
  | x :: y :: r => by
    unfold joinT
    split
    · rename_i h
      have ih := join_spell m r
      unfold spellT at *
      rw [List.flatMap_cons, List.flatMap_cons, List.flatMap_cons, ih, bs_app, h.1, h.2, List.append_assoc]
    · have ih := join_spell m (y :: r)
      unfold spellT at *
      rw [List.flatMap_cons, ih]
      rfl
set_option maxRecDepth 100000 in
theorem run_spell (ms : List Mg) : ∀ W, spellT (runW W ms) = spellT W := by
  induction ms with
  | nil => intro W; rfl
  | cons m r ih => intro W; rw [runW, ih, join_spell]
set_option maxRecDepth 100000 in
/-- Texts of one byte each are told by what they spell. -/
theorem ones_uni : ∀ {A B : List ByteArray}, (∀ t ∈ A, t.size = 1) → (∀ t ∈ B, t.size = 1) → spellT A = spellT B → A = B
  | [], [], _, _, _ => rfl
  | [], b :: B, _, hB, h => by
    have h1 := hB b List.mem_cons_self
    rw [← bs_size] at h1
    have h2 : (bs b ++ spellT B).length = 0 := by rw [show bs b ++ spellT B = spellT (b :: B) from rfl, ← h]; rfl
    rw [List.length_append] at h2; omega
  | a :: A, [], hA, _, h => by
    have h1 := hA a List.mem_cons_self
    rw [← bs_size] at h1
    have h2 : (bs a ++ spellT A).length = 0 := by rw [show bs a ++ spellT A = spellT (a :: A) from rfl, h]; rfl
    rw [List.length_append] at h2; omega
  | a :: A, b :: B, hA, hB, h => by
    have h1 := hA a List.mem_cons_self
    have h2 := hB b List.mem_cons_self
    rw [← bs_size] at h1 h2
    have h3 : bs a ++ spellT A = bs b ++ spellT B := h
    obtain ⟨e1, e2⟩ := List.append_inj h3 (by omega)
    rw [bs_inj e1, ones_uni (fun t ht => hA t (List.mem_cons_of_mem _ ht)) (fun t ht => hB t (List.mem_cons_of_mem _ ht)) e2]
set_option maxRecDepth 100000 in
/-- A part of a word, wherever it stands, is what its bytes alone come to. -/
theorem part_alone {W W2 P Q R P2 R2 Q2 : List ByteArray} {ms : List Mg} (hW : ∀ t ∈ W, t.size = 1) (hW2 : ∀ t ∈ W2, t.size = 1) (h : runW W ms = P ++ Q ++ R) (h2 : runW W2 ms = P2 ++ Q2 ++ R2) (hs : spellT Q = spellT Q2) : Q = Q2 := by
  obtain ⟨A, C, e1, e2, e3⟩ := run_split ms W _ _ h
  obtain ⟨A1, B, f1, f2, f3⟩ := run_split ms A _ _ e2
  obtain ⟨A', C', e1', e2', e3'⟩ := run_split ms W2 _ _ h2
  obtain ⟨A1', B', f1', f2', f3'⟩ := run_split ms A' _ _ e2'
  have hB : ∀ t ∈ B, t.size = 1 := fun t ht => hW t (by rw [e1, f1]; simp [ht])
  have hB' : ∀ t ∈ B', t.size = 1 := fun t ht => hW2 t (by rw [e1', f1']; simp [ht])
  have e : B = B' := ones_uni hB hB' (by rw [← run_spell ms B, ← run_spell ms B', f3, f3', hs])
  rw [← f3, ← f3', e]
set_option maxRecDepth 100000 in
theorem cnt_stands {m : Mg} : ∀ {w : List ByteArray}, 1 ≤ cntT m w → ∃ P R, w = P ++ [m.1, m.2] ++ R
  | [], h => by simp [cntT] at h
  | [x], h => by simp [cntT] at h
  | x :: y :: r, h => by
    unfold cntT at h
    by_cases hm : x = m.1 ∧ y = m.2
    · exact ⟨[], r, by rw [hm.1, hm.2]; rfl⟩
    · rw [if_neg hm] at h
      obtain ⟨P, R, e⟩ := cnt_stands (m := m) (w := y :: r) (by omega)
      exact ⟨x :: P, R, by rw [e]; rfl⟩
set_option maxRecDepth 100000 in
theorem run_one (t : ByteArray) : ∀ ms : List Mg, runW [t] ms = [t]
  | [] => rfl
  | _ :: r => run_one t r
set_option maxRecDepth 100000 in
/-- No two merges make one text. -/
theorem made_once {W : List (List ByteArray)} {ms : List Mg} (hW : ∀ w ∈ W, ∀ t ∈ w, t.size = 1) (hms : ∀ i (h : i < ms.length), ∃ w ∈ runT W (ms.take i), 1 ≤ cntT ms[i] w) {i j : Nat} (hij : i < j) (hj : j < ms.length) : ms[i].1 ++ ms[i].2 ≠ ms[j].1 ++ ms[j].2 := by
  intro he
  obtain ⟨w, hw, hc⟩ := hms i (by omega)
  obtain ⟨w', hw', hc'⟩ := hms j hj
  rw [runT_map] at hw hw'
  obtain ⟨v, hv, rfl⟩ := List.mem_map.1 hw
  obtain ⟨v', hv', rfl⟩ := List.mem_map.1 hw'
  obtain ⟨P, R, h1⟩ := cnt_stands hc
  obtain ⟨P', R', h1'⟩ := cnt_stands hc'
  -- the text alone: behind i merges the pair i, behind the next one text, behind j merges still one text
  obtain ⟨A, _, _, e2, _⟩ := run_split (ms.take i) v _ _ h1
  obtain ⟨A1, B, f1, f2, f3⟩ := run_split (ms.take i) A _ _ e2
  have hjt : ms.take j = ms.take i ++ (ms[i] :: (ms.take j).drop (i + 1)) := by
    have h3 : ms.take j = (ms.take j).take i ++ (ms.take j).drop i := (List.take_append_drop i _).symm
    rw [List.take_take, Nat.min_eq_left (by omega)] at h3
    have h4 : (ms.take j).drop i = (ms.take j)[i]'(by rw [List.length_take]; omega) :: (ms.take j).drop (i + 1) := List.drop_eq_getElem_cons (by rw [List.length_take]; omega)
    rw [h4, List.getElem_take] at h3
    exact h3
  have hone : runW B (ms.take j) = [ms[i].1 ++ ms[i].2] := by
    rw [hjt, runW_append, f3]
    show runW (joinT ms[i] [ms[i].1, ms[i].2]) _ = _
    have : joinT ms[i] [ms[i].1, ms[i].2] = [ms[i].1 ++ ms[i].2] := by unfold joinT; rw [if_pos ⟨rfl, rfl⟩]; rfl
    rw [this, run_one]
  have hB : ∀ t ∈ B, t.size = 1 := by
    rename_i C e1 e3
    intro t ht
    exact hW v hv t (by rw [e1, f1]; simp [ht])
  have hs : spellT [ms[i].1 ++ ms[i].2] = spellT [ms[j].1, ms[j].2] := by
    rw [he]
    simp [spellT]
  have := part_alone (P := []) (R := []) hB (hW v' hv') (by rw [hone]; rfl : runW B (ms.take j) = [] ++ [ms[i].1 ++ ms[i].2] ++ []) h1' hs
  have hl := congrArg List.length this
  simp at hl
/-! Each text is of one byte, or was made. -/
set_option maxRecDepth 100000 in
theorem join_mem (m : Mg) : ∀ (W : List ByteArray) (t : ByteArray), t ∈ joinT m W → t ∈ W ∨ t = m.1 ++ m.2
  | [], t, h => by simp [joinT] at h
  | [x], t, h => .inl h
  | x :: y :: r, t, h => by
    unfold joinT at h
    split at h
    · rcases List.mem_cons.1 h with h | h
      · exact .inr h
      · rcases join_mem m r t h with k | k
        · exact .inl (List.mem_cons_of_mem _ (List.mem_cons_of_mem _ k))
        · exact .inr k
    · rcases List.mem_cons.1 h with h | h
      · exact .inl (h ▸ List.mem_cons_self)
      · rcases join_mem m (y :: r) t h with k | k
        · exact .inl (List.mem_cons_of_mem _ k)
        · exact .inr k
set_option maxRecDepth 100000 in
theorem run_mem : ∀ (ms : List Mg) (w : List ByteArray) (t : ByteArray), t ∈ runW w ms → t ∈ w ∨ ∃ m ∈ ms, t = m.1 ++ m.2
  | [], _, _, h => .inl h
  | m :: r, w, t, h => by
    rcases run_mem r _ t h with k | ⟨m', k1, k2⟩
    · rcases join_mem m w t k with k | k
      · exact .inl k
      · exact .inr ⟨m, List.mem_cons_self, k⟩
    · exact .inr ⟨m', List.mem_cons_of_mem _ k1, k2⟩
/-- Merges are right: each side is of one byte or was made ahead; no two make one text. -/
def RightM (ms : List Mg) : Prop := ∀ j (h : j < ms.length), ((ms[j].1.size = 1 ∨ ∃ m ∈ ms.take j, ms[j].1 = m.1 ++ m.2) ∧ (ms[j].2.size = 1 ∨ ∃ m ∈ ms.take j, ms[j].2 = m.1 ++ m.2)) ∧ ∀ m ∈ ms.take j, m.1 ++ m.2 ≠ ms[j].1 ++ ms[j].2
set_option maxRecDepth 100000 in
theorem learned_right {W : List (List ByteArray)} {ms : List Mg} (hW : ∀ w ∈ W, ∀ t ∈ w, t.size = 1) (hms : ∀ i (h : i < ms.length), ∃ w ∈ runT W (ms.take i), 1 ≤ cntT ms[i] w) : RightM ms := by
  intro j hj
  obtain ⟨w, hw, hc⟩ := hms j hj
  rw [runT_map] at hw
  obtain ⟨v, hv, rfl⟩ := List.mem_map.1 hw
  obtain ⟨P, R, h1⟩ := cnt_stands hc
  have side : ∀ t, t ∈ runW v (ms.take j) → t.size = 1 ∨ ∃ m ∈ ms.take j, t = m.1 ++ m.2 := fun t ht => by
    rcases run_mem _ _ _ ht with k | k
    · exact .inl (hW v hv t k)
    · exact .inr k
  refine ⟨⟨side _ (by rw [h1]; simp), side _ (by rw [h1]; simp)⟩, fun m hm => ?_⟩
  obtain ⟨i, hi, rfl⟩ := List.getElem_of_mem hm
  rw [List.length_take] at hi
  rw [List.getElem_take]
  exact made_once hW hms (by omega) hj
end Go.Proofs.YtnmacalbbmeedaaGreat
