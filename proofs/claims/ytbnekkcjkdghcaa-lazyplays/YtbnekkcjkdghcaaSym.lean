/- Symbols and the texts they stand for, as plain lists. -/
import Derived.Test.YtbnekkcjkdghcaaBag
namespace Go.Proofs.Ytbnekkcjkdghcaa

/-- A symbol that was joined: its text, and the two. -/
abbrev Joint := ByteArray × Int × Int
def noText : ByteArray := ⟨#[]⟩
def oneB (c : Nat) : ByteArray := ⟨#[UInt8.ofNat c]⟩
def ones : List ByteArray := (List.range 256).map oneB
/-- What each symbol stands for. -/
def textsOf (J : List Joint) : List ByteArray := ones ++ J.map (·.1)
set_option maxRecDepth 100000 in
theorem ones_len : ones.length = 256 := by simp [ones]
set_option maxRecDepth 100000 in
theorem texts_len (J : List Joint) : (textsOf J).length = 256 + J.length := by simp [textsOf, ones_len]
set_option maxRecDepth 100000 in
theorem ones_at {c : Nat} (h : c < ones.length) : ones[c] = oneB c := by simp [ones]
set_option maxRecDepth 100000 in
theorem texts_low {J : List Joint} {c : Nat} (h : c < 256) (h' : c < (textsOf J).length) : (textsOf J)[c] = oneB c := by
  refine (List.getElem_append_left (show c < ones.length by rw [ones_len]; exact h)).trans ?_
  exact ones_at _
set_option maxRecDepth 100000 in
theorem texts_high {J : List Joint} {k : Nat} (h : k < J.length) (h' : 256 + k < (textsOf J).length) : (textsOf J)[256 + k] = J[k].1 := by
  refine (List.getElem_append_right (show ones.length ≤ 256 + k by rw [ones_len]; omega)).trans ?_
  simp [ones_len]
/-- Is a symbol there? -/
def thereOf (J : List Joint) (id : Int) : Bool := decide (0 ≤ id) && decide (id < ((256 + J.length : Nat) : Int))
/-- What a symbol stands for. -/
def txtOf (J : List Joint) (id : Int) : ByteArray := if 0 ≤ id then (textsOf J).getD id.toNat noText else noText
set_option maxRecDepth 100000 in
theorem there_iff {J : List Joint} {id : Int} : thereOf J id = true ↔ 0 ≤ id ∧ id.toNat < (textsOf J).length := by
  unfold thereOf
  rw [Bool.and_eq_true, decide_eq_true_iff, decide_eq_true_iff, texts_len]
  constructor
  · rintro ⟨a, b⟩; exact ⟨a, by omega⟩
  · rintro ⟨a, b⟩; exact ⟨a, by omega⟩
set_option maxRecDepth 100000 in
theorem txt_there {J : List Joint} {id : Int} (h0 : 0 ≤ id) (h : id.toNat < (textsOf J).length) : txtOf J id = (textsOf J)[id.toNat] := by
  unfold txtOf
  rw [if_pos h0, List.getD_eq_getElem?_getD, List.getElem?_eq_getElem h]
  rfl
set_option maxRecDepth 100000 in
theorem txt_not {J : List Joint} {id : Int} (h : thereOf J id = false) : txtOf J id = noText := by
  unfold txtOf
  split
  · rename_i h0
    have : ¬ id.toNat < (textsOf J).length := fun k => by
      have := there_iff.2 ⟨h0, k⟩
      rw [h] at this; cases this
    rw [List.getD_eq_getElem?_getD, List.getElem?_eq_none (by omega)]
    rfl
  · rfl
/-- The first place of a text, from a place on. -/
def findFrom (k : Nat) : List ByteArray → ByteArray → Int × Bool
  | [], _ => (0, false)
  | t :: r, s => if t = s then ((k : Int), true) else findFrom (k + 1) r s
def findOf (J : List Joint) (s : ByteArray) : Int × Bool := findFrom 0 (textsOf J) s
set_option maxRecDepth 100000 in
theorem find_next {T : List ByteArray} {s : ByteArray} {k : Nat} (hk : k < T.length) (h : T[k] ≠ s) : findFrom k (T.drop k) s = findFrom (k + 1) (T.drop (k + 1)) s := by
  rw [List.drop_eq_getElem_cons hk]
  conv => lhs; unfold findFrom
  rw [if_neg h]
set_option maxRecDepth 100000 in
theorem find_here {T : List ByteArray} {s : ByteArray} {k : Nat} (hk : k < T.length) (h : T[k] = s) : findFrom k (T.drop k) s = ((k : Int), true) := by
  rw [List.drop_eq_getElem_cons hk]
  unfold findFrom
  rw [if_pos h]
set_option maxRecDepth 100000 in
theorem find_end {T : List ByteArray} {s : ByteArray} {k : Nat} (hk : T.length ≤ k) : findFrom k (T.drop k) s = (0, false) := by
  rw [List.drop_of_length_le hk]; rfl
set_option maxRecDepth 100000 in
theorem find_none {s : ByteArray} : ∀ {T : List ByteArray} {k : Nat}, s ∉ T → findFrom k T s = (0, false)
  | [], _, _ => rfl
  | t :: r, k, h => by
    unfold findFrom
    rw [if_neg (fun e => h (by rw [e]; exact List.mem_cons_self ..))]
    exact find_none fun e => h (List.mem_cons_of_mem _ e)
set_option maxRecDepth 100000 in
theorem find_some {s : ByteArray} : ∀ {T : List ByteArray} {k j : Nat} (hj : j < T.length), T.Nodup → T[j] = s → findFrom k T s = (((k + j : Nat) : Int), true)
  | t :: r, k, 0, _, _, h => by
    unfold findFrom
    rw [if_pos (show t = s from h)]; rfl
  | t :: r, k, j + 1, hj, hn, h => by
    obtain ⟨h1, h2⟩ := List.nodup_cons.1 hn
    have hj' : j < r.length := by simpa using hj
    have he : r[j] = s := by simpa using h
    unfold findFrom
    rw [if_neg (fun e => h1 (by rw [e, ← he]; exact List.getElem_mem hj')), find_some hj' h2 he]
    congr 2
    omega
set_option maxRecDepth 100000 in
theorem find_snd {s : ByteArray} : ∀ {T : List ByteArray} {k : Nat}, (findFrom k T s).2 = true ↔ s ∈ T
  | [], _ => by simp [findFrom]
  | t :: r, k => by
    unfold findFrom
    by_cases e : t = s
    · rw [if_pos e]; simp [e]
    · rw [if_neg e, find_snd]
      simp [Ne.symm e]
/-- To join two symbols: the new one, the error's number, and what there is then. -/
def joinOf (J : List Joint) (a b : Int) : (Int × Int) × List Joint :=
  if (thereOf J a && thereOf J b) = true then
    if 65536 < (txtOf J a).size + (txtOf J b).size then ((0, 4), J)
    else if (findOf J (txtOf J a ++ txtOf J b)).2 = true then ((0, 8), J)
    else ((((256 + J.length : Nat) : Int), 0), J ++ [(txtOf J a ++ txtOf J b, a, b)])
  else ((0, 1), J)
set_option maxRecDepth 100000 in
theorem join_arg {J : List Joint} {a b : Int} (h : (thereOf J a && thereOf J b) = false) : joinOf J a b = ((0, 1), J) := by
  unfold joinOf; rw [h]; rfl
set_option maxRecDepth 100000 in
theorem join_long {J : List Joint} {a b : Int} (h : (thereOf J a && thereOf J b) = true) (hl : 65536 < (txtOf J a).size + (txtOf J b).size) : joinOf J a b = ((0, 4), J) := by
  unfold joinOf; rw [if_pos h, if_pos hl]
set_option maxRecDepth 100000 in
theorem join_repeat {J : List Joint} {a b : Int} (h : (thereOf J a && thereOf J b) = true) (hl : ¬ 65536 < (txtOf J a).size + (txtOf J b).size) (hf : (findOf J (txtOf J a ++ txtOf J b)).2 = true) : joinOf J a b = ((0, 8), J) := by
  unfold joinOf; rw [if_pos h, if_neg hl, if_pos hf]
set_option maxRecDepth 100000 in
theorem join_new {J : List Joint} {a b : Int} (h : (thereOf J a && thereOf J b) = true) (hl : ¬ 65536 < (txtOf J a).size + (txtOf J b).size) (hf : (findOf J (txtOf J a ++ txtOf J b)).2 = false) :
    joinOf J a b = ((((256 + J.length : Nat) : Int), 0), J ++ [(txtOf J a ++ txtOf J b, a, b)]) := by
  unfold joinOf; rw [if_pos h, if_neg hl, hf]; rfl
/-- What is true of any table. -/
structure Good (J : List Joint) : Prop where
  nodup : (textsOf J).Nodup
  size : ∀ p ∈ J, 2 ≤ p.1.size ∧ p.1.size ≤ 65536
  each : ∀ k (h : k < J.length), (0 ≤ J[k].2.1 ∧ J[k].2.1 < ((256 + k : Nat) : Int)) ∧ (0 ≤ J[k].2.2 ∧ J[k].2.2 < ((256 + k : Nat) : Int)) ∧ J[k].1 = txtOf J J[k].2.1 ++ txtOf J J[k].2.2
set_option maxRecDepth 100000 in
theorem oneB_size (c : Nat) : (oneB c).size = 1 := rfl
set_option maxRecDepth 100000 in
theorem oneB_inj {a b : Nat} (ha : a < 256) (hb : b < 256) (h : oneB a = oneB b) : a = b := by
  have h1 : UInt8.ofNat a = UInt8.ofNat b := by
    have := congrArg ByteArray.data h
    simpa [oneB] using this
  have h2 := congrArg UInt8.toNat h1
  simp only [UInt8.toNat_ofNat'] at h2
  omega
set_option maxRecDepth 100000 in
theorem ones_nodup : ones.Nodup := by
  refine List.pairwise_iff_getElem.2 fun i j hi hj hij e => ?_
  rw [ones_at, ones_at] at e
  rw [ones_len] at hi hj
  have := oneB_inj hi hj e
  omega
set_option maxRecDepth 100000 in
theorem good_nil : Good [] := ⟨by unfold textsOf; simpa using ones_nodup, by simp, by simp⟩
set_option maxRecDepth 100000 in
theorem texts_more (J : List Joint) (p : Joint) : textsOf (J ++ [p]) = textsOf J ++ [p.1] := by simp [textsOf]
set_option maxRecDepth 100000 in
theorem txt_more {J : List Joint} {p : Joint} {id : Int} (h : thereOf J id = true) : txtOf (J ++ [p]) id = txtOf J id := by
  obtain ⟨h0, h1⟩ := there_iff.1 h
  have h2 : id.toNat < (textsOf (J ++ [p])).length := by rw [texts_more, List.length_append]; omega
  rw [txt_there h0 h1, txt_there h0 h2]
  simp only [texts_more]
  rw [List.getElem_append_left h1]
set_option maxRecDepth 100000 in
theorem size_app (a b : ByteArray) : (a ++ b).size = a.size + b.size := ByteArray.size_append
set_option maxRecDepth 100000 in
theorem txt_size {J : List Joint} (hg : Good J) {id : Int} (h : thereOf J id = true) : 1 ≤ (txtOf J id).size ∧ (txtOf J id).size ≤ 65536 := by
  obtain ⟨h0, h1⟩ := there_iff.1 h
  rw [txt_there h0 h1]
  have hm := List.getElem_mem h1
  rcases List.mem_append.1 hm with k | k
  · obtain ⟨c, _, e⟩ := List.mem_map.1 k
    rw [← e, oneB_size]; omega
  · obtain ⟨p, hp, e⟩ := List.mem_map.1 k
    have := hg.size p hp
    rw [← e]; omega
set_option maxRecDepth 100000 in
theorem txt_le {J : List Joint} (hg : Good J) (id : Int) : (txtOf J id).size ≤ 65536 := by
  cases h : thereOf J id with
  | true => exact (txt_size hg h).2
  | false => rw [txt_not h]; exact Nat.zero_le _
set_option maxRecDepth 100000 in
theorem good_join {J : List Joint} (hg : Good J) (a b : Int) : Good (joinOf J a b).2 := by
  cases h : (thereOf J a && thereOf J b) with
  | false => rw [join_arg h]; exact hg
  | true =>
    by_cases hl : 65536 < (txtOf J a).size + (txtOf J b).size
    · rw [join_long h hl]; exact hg
    · cases hf : (findOf J (txtOf J a ++ txtOf J b)).2 with
      | true => rw [join_repeat h hl hf]; exact hg
      | false =>
        rw [join_new h hl hf]
        obtain ⟨ha, hb⟩ := Bool.and_eq_true_iff.1 h
        have sa := txt_size hg ha
        have sb := txt_size hg hb
        have hn : txtOf J a ++ txtOf J b ∉ textsOf J := fun k => by
          have := (find_snd (k := 0)).2 k
          rw [show findFrom 0 (textsOf J) (txtOf J a ++ txtOf J b) = findOf J (txtOf J a ++ txtOf J b) from rfl, hf] at this
          cases this
        refine ⟨?_, ?_, ?_⟩
        · rw [texts_more]
          refine List.nodup_append.2 ⟨hg.nodup, by simp, fun x hx y hy => ?_⟩
          rw [List.mem_singleton] at hy
          rintro rfl
          exact hn (by rw [hy] at hx; exact hx)
        · intro p hp
          rcases List.mem_append.1 hp with k | k
          · exact hg.size p k
          · rw [List.mem_singleton] at k
            subst k
            show 2 ≤ (txtOf J a ++ txtOf J b).size ∧ (txtOf J a ++ txtOf J b).size ≤ 65536
            rw [size_app]; omega
        · intro k hk
          have lo : ∀ {id : Int} {m : Nat}, m ≤ J.length → (0 ≤ id ∧ id < ((256 + m : Nat) : Int)) → thereOf J id = true := fun hm h => there_iff.2 ⟨h.1, by rw [texts_len]; omega⟩
          by_cases hk2 : k < J.length
          · rw [List.getElem_append_left hk2]
            obtain ⟨e1, e2, e3⟩ := hg.each k hk2
            refine ⟨e1, e2, ?_⟩
            rw [txt_more (lo (by omega) e1), txt_more (lo (by omega) e2)]
            exact e3
          · have hk3 : k = J.length := by rw [List.length_append, List.length_singleton] at hk; omega
            subst hk3
            rw [List.getElem_append_right (by omega)]
            simp only [Nat.sub_self, List.getElem_singleton]
            rw [txt_more ha, txt_more hb]
            obtain ⟨a0, a1⟩ := there_iff.1 ha
            obtain ⟨b0, b1⟩ := there_iff.1 hb
            rw [texts_len] at a1 b1
            exact ⟨⟨a0, by omega⟩, ⟨b0, by omega⟩, rfl⟩
set_option maxRecDepth 100000 in
theorem join_len (J : List Joint) (a b : Int) : (joinOf J a b).2.length ≤ J.length + 1 := by
  unfold joinOf
  split
  · split
    · simp
    · split <;> simp
  · simp
/-- What the map of a table holds. -/
def MapOf (J : List Joint) (L : Bag) : Prop := Rising L ∧ L.length ≤ J.length ∧ ∀ s c, (s, c) ∈ L ↔ ∃ k, ∃ h : k < J.length, J[k].1 = s ∧ c = ((256 + k : Nat) : Int)
set_option maxRecDepth 100000 in
theorem mapOf_nil : MapOf [] [] := ⟨List.Pairwise.nil, Nat.le_refl _, fun s c => by simp⟩
set_option maxRecDepth 100000 in
theorem mapOf_more {J : List Joint} {L : Bag} (h : MapOf J L) {p : Joint} (hn : ∀ q ∈ J, q.1 ≠ p.1) : MapOf (J ++ [p]) (putW p.1 ((256 + J.length : Nat) : Int) L) := by
  obtain ⟨h1, h2, h3⟩ := h
  refine ⟨rising_putW h1, by have := len_putW p.1 ((256 + J.length : Nat) : Int) L; rw [List.length_append, List.length_singleton]; omega, fun s c => ?_⟩
  rw [mem_putW h1, h3]
  constructor
  · rintro (e | ⟨⟨k, hk, e1, e2⟩, _⟩)
    · simp only [Prod.mk.injEq] at e
      exact ⟨J.length, by simp, by simp [e.1], e.2⟩
    · exact ⟨k, by rw [List.length_append]; omega, by rw [List.getElem_append_left hk]; exact e1, e2⟩
  · rintro ⟨k, hk, e1, e2⟩
    by_cases hk2 : k < J.length
    · rw [List.getElem_append_left hk2] at e1
      exact .inr ⟨⟨k, hk2, e1, e2⟩, by show s ≠ p.1; rw [← e1]; exact hn _ (List.getElem_mem hk2)⟩
    · have hk3 : k = J.length := by rw [List.length_append, List.length_singleton] at hk; omega
      subst hk3
      rw [List.getElem_append_right (by omega)] at e1
      simp only [Nat.sub_self, List.getElem_singleton] at e1
      exact .inl (by rw [e1, e2])
set_option maxRecDepth 100000 in
theorem find_one {J : List Joint} (hg : Good J) {s : ByteArray} (h : s.size = 1) : findOf J s = (((s[0]'(by omega)).toNat : Int), true) := by
  have hc : (s[0]'(by omega)).toNat < 256 := UInt8.toNat_lt _
  have hl : (s[0]'(by omega)).toNat < (textsOf J).length := by rw [texts_len]; omega
  have e : (textsOf J)[(s[0]'(by omega)).toNat] = s := by
    rw [texts_low hc]
    unfold oneB
    rw [UInt8.ofNat_toNat]
    refine ByteArray.ext ?_
    refine Array.ext ?_ fun i h1 h2 => ?_
    · show 1 = s.size; rw [h]
    · have : i = 0 := by have h1' : i < 1 := h1; omega
      subst this
      rfl
  unfold findOf
  rw [find_some hl hg.nodup e]
  simp
set_option maxRecDepth 100000 in
theorem find_map {J : List Joint} (hg : Good J) {L : Bag} (hm : MapOf J L) {s : ByteArray} (h : s.size ≠ 1) : findOf J s = (countOf L s, L.any (fun p => p.1 = s)) := by
  obtain ⟨h1, h2, h3⟩ := hm
  rcases countOf_cases L s with ⟨e1, e2⟩ | e1
  · have : s ∉ textsOf J := by
      intro hs
      rcases List.mem_append.1 hs with k | k
      · obtain ⟨c, _, e⟩ := List.mem_map.1 k
        exact h (by rw [← e, oneB_size])
      · obtain ⟨p, hp, e⟩ := List.mem_map.1 k
        obtain ⟨j, hj, rfl⟩ := List.mem_iff_getElem.1 hp
        exact e2 _ ((h3 s _).2 ⟨j, hj, e, rfl⟩) rfl
    unfold findOf
    rw [find_none this, e1]
    congr 1
    symm
    refine List.any_eq_false.2 fun p hp => ?_
    simpa using e2 p hp
  · obtain ⟨k, hk, e2, e3⟩ := (h3 _ _).1 e1
    have hl : 256 + k < (textsOf J).length := by rw [texts_len]; omega
    unfold findOf
    rw [find_some hl hg.nodup (by rw [texts_high hk]; exact e2), e3, Nat.zero_add]
    congr 1
    symm
    exact List.any_eq_true.2 ⟨_, e1, by simp⟩
/-- How a symbol was made. -/
def jointOf (J : List Joint) (id : Int) : Joint × Bool := if h : 256 ≤ id ∧ id < ((256 + J.length : Nat) : Int) then (J[(id - 256).toNat]'(by omega), true) else ((noText, 0, 0), false)
set_option maxRecDepth 100000 in
theorem joint_not {J : List Joint} {id : Int} (h : ¬ (256 ≤ id ∧ id < ((256 + J.length : Nat) : Int))) : jointOf J id = ((noText, 0, 0), false) := by unfold jointOf; rw [dif_neg h]
set_option maxRecDepth 100000 in
theorem joint_yes {J : List Joint} {id : Int} {k : Nat} (hk : k < J.length) (h : id = ((256 + k : Nat) : Int)) : jointOf J id = (J[k], true) := by
  unfold jointOf
  rw [dif_pos (by omega)]
  have : (id - 256).toNat = k := by omega
  simp only [this]
set_option maxRecDepth 100000 in
theorem joint_txt {J : List Joint} {id : Int} (h : 256 ≤ id) : (jointOf J id).1.1 = txtOf J id ∧ (jointOf J id).2 = thereOf J id := by
  by_cases h2 : id < ((256 + J.length : Nat) : Int)
  · obtain ⟨k, hk⟩ : ∃ k : Nat, id = ((256 + k : Nat) : Int) := ⟨(id - 256).toNat, by omega⟩
    have hkJ : k < J.length := by omega
    subst hk
    rw [joint_yes hkJ rfl]
    have ht : thereOf J ((256 + k : Nat) : Int) = true := there_iff.2 ⟨by omega, by rw [texts_len]; omega⟩
    obtain ⟨h0, h1⟩ := there_iff.1 ht
    refine ⟨?_, ht.symm⟩
    rw [txt_there h0 h1]
    exact (texts_high hkJ (by rw [texts_len]; omega)).symm
  · rw [joint_not (by omega)]
    have ht : thereOf J id = false := by
      cases e : thereOf J id
      · rfl
      · obtain ⟨h0, h1⟩ := there_iff.1 e
        rw [texts_len] at h1
        omega
    exact ⟨(txt_not ht).symm, ht.symm⟩
set_option maxRecDepth 100000 in
theorem join_ok {J : List Joint} {a c : Int} (h : (joinOf J a c).1.2 = 0) : (joinOf J a c).1.1 = ((256 + J.length : Nat) : Int) ∧ thereOf (joinOf J a c).2 (joinOf J a c).1.1 = true := by
  cases h1 : (thereOf J a && thereOf J c) with
  | false => rw [join_arg h1] at h; cases h
  | true =>
    by_cases hl : 65536 < (txtOf J a).size + (txtOf J c).size
    · rw [join_long h1 hl] at h; cases h
    · cases hf : (findOf J (txtOf J a ++ txtOf J c)).2 with
      | true => rw [join_repeat h1 hl hf] at h; cases h
      | false =>
        rw [join_new h1 hl hf]
        refine ⟨rfl, there_iff.2 ⟨?_, ?_⟩⟩
        · show (0 : Int) ≤ ((256 + J.length : Nat) : Int); omega
        · show ((256 + J.length : Nat) : Int).toNat < _
          rw [texts_len, List.length_append, List.length_singleton]; omega
set_option maxRecDepth 100000 in
theorem find_txt {J : List Joint} (hg : Good J) {a : Int} (h : thereOf J a = true) : findOf J (txtOf J a) = (a, true) := by
  obtain ⟨h0, h1⟩ := there_iff.1 h
  unfold findOf
  rw [txt_there h0 h1, find_some h1 hg.nodup rfl]
  congr 1
  omega
set_option maxRecDepth 100000 in
theorem txt_inj {J : List Joint} (hg : Good J) {a b : Int} (ha : thereOf J a = true) (hb : thereOf J b = true) (h : txtOf J a = txtOf J b) : a = b := by
  have h1 := find_txt hg ha
  rw [h, find_txt hg hb] at h1
  simp only [Prod.mk.injEq, and_true] at h1
  exact h1.symm
set_option maxRecDepth 100000 in
/-- What is told of a symbol that was joined. -/
theorem joint_facts {J : List Joint} (hg : Good J) {a : Int} (h : 256 ≤ a) (ht : thereOf J a = true) : ∃ p q, jointOf J a = ((txtOf J a, p, q), true) ∧ thereOf J p = true ∧ thereOf J q = true ∧ (0 ≤ p ∧ p < a) ∧ (0 ≤ q ∧ q < a) ∧ txtOf J p ++ txtOf J q = txtOf J a := by
  obtain ⟨h0, h1⟩ := there_iff.1 ht
  rw [texts_len] at h1
  obtain ⟨k, hk⟩ : ∃ k : Nat, a = ((256 + k : Nat) : Int) := ⟨(a - 256).toNat, by omega⟩
  have hkJ : k < J.length := by omega
  have e := joint_yes hkJ hk
  obtain ⟨g1, g2, g3⟩ := hg.each k hkJ
  have j1 := (joint_txt (J := J) (id := a) h).1
  rw [e] at j1
  refine ⟨J[k].2.1, J[k].2.2, ?_, there_iff.2 ⟨g1.1, by rw [texts_len]; omega⟩, there_iff.2 ⟨g2.1, by rw [texts_len]; omega⟩, by omega, by omega, ?_⟩
  · rw [e, ← j1]
  · rw [← j1]; exact g3.symm
set_option maxRecDepth 100000 in
theorem joint_low {J : List Joint} {a : Int} (h : a < 256 ∨ thereOf J a = false) : jointOf J a = ((noText, 0, 0), false) := by
  refine joint_not fun ⟨k1, k2⟩ => ?_
  rcases h with h | h
  · omega
  · have := there_iff (J := J) (id := a) |>.2 ⟨by omega, by rw [texts_len]; omega⟩
    rw [h] at this; cases this
set_option maxRecDepth 100000 in
theorem not_found {J : List Joint} {s : ByteArray} (h : (findOf J s).2 = false) : ∀ q ∈ J, q.1 ≠ s := by
  intro q hq e
  have := (find_snd (T := textsOf J) (s := s) (k := 0)).2 (List.mem_append_right _ (List.mem_map.2 ⟨q, hq, e⟩))
  unfold findOf at h
  rw [h] at this
  cases this
/-- What was joined, in its order. -/
def mergesOf (J : List Joint) : List (ByteArray × ByteArray) := J.map fun p => (txtOf J p.2.1, txtOf J p.2.2)
set_option maxRecDepth 100000 in
theorem merges_len (J : List Joint) : (mergesOf J).length = J.length := by simp [mergesOf]
set_option maxRecDepth 100000 in
theorem ones_more {c : Nat} (h : c < 256) : ones.take (c + 1) = ones.take c ++ [oneB c] := by
  rw [List.take_succ_eq_append_getElem (by rw [ones_len]; exact h), ones_at]
set_option maxRecDepth 100000 in
theorem mapOf_none {J : List Joint} (h : MapOf J []) : J = [] := by
  cases J with
  | nil => rfl
  | cons p r =>
    have := (h.2.2 p.1 ((256 + 0 : Nat) : Int)).2 ⟨0, by simp, rfl, rfl⟩
    simp at this
end Go.Proofs.Ytbnekkcjkdghcaa
