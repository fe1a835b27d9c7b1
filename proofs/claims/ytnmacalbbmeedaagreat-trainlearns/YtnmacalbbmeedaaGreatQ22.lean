/- Texts in one: IxTab, Sym, MapSI. -/
import Derived.Test.YtnmacalbbmeedaaGreatQ21
import Derived.Test.YtnmacalbbmeedaaGreatQ09
import Derived.Test.YtnmacalbbmeedaaGreatQ02
import Derived.Maps.RangeWalk
import Derived.Maps.OwnOps
import Derived.Maps.OwnSet
/- A right table's words as an index has them, plain. -/
namespace Go.Proofs.YtnmacalbbmeedaaGreat
open Go.RowKit Go.Maps

def wsOf (L : Bag) : List Wd := L.map fun p => (syms p.1, p.2)
set_option maxRecDepth 100000 in
theorem ws_len (L : Bag) : (wsOf L).length = L.length := by simp [wsOf]
set_option maxRecDepth 100000 in
theorem ws_bytes (L : Bag) : lenW (wsOf L) = (bytesOf L : Int) := by
  induction L with
  | nil => rfl
  | cons p r ih =>
    have e1 : lenW (wsOf (p :: r)) = ((syms p.1).length : Int) + lenW (wsOf r) := rfl
    have e2 : bytesOf (p :: r) = p.1.size + bytesOf r := by simp [bytesOf]
    rw [e1, e2, ih, syms_len]; omega
set_option maxRecDepth 100000 in
theorem check_each : ∀ (L : Bag) (k : Nat) (o : Option (ByteArray × Int)), checkFrom k o L = none → ∀ p ∈ L, wrongW p.1 p.2 = 0
  | [], _, _, _, p, hp => by simp at hp
  | q :: r, k, o, h, p, hp => by
    rw [checkFrom] at h
    split at h
    · rename_i h0
      rcases List.mem_cons.1 hp with rfl | hp
      · unfold wrongBy at h0
        split at h0
        · rename_i h1; exact h1
        · exact h0
      · exact check_each r _ _ h p hp
    · cases h
set_option maxRecDepth 100000 in
theorem dot_wt : ∀ (L : Bag) (t r : Int), dotFrom t (countsOf L) (roomsOf L) = (r, true) → r = t + wtW (wsOf L) ∧ (t ≤ 9223372036854775807 → r ≤ 9223372036854775807)
  | [], t, r, h => by
    have e : (t, true) = (r, true) := h
    simp only [Prod.mk.injEq, and_true] at e
    subst e
    simp [wsOf, wtW, sumW]
  | p :: L, t, r, h => by
    have e : dotFrom t (countsOf (p :: L)) (roomsOf (p :: L)) = bif (mulOf p.2 (roomOf p.1)).2 then (bif (addOf t (mulOf p.2 (roomOf p.1)).1).2 then dotFrom (addOf t (mulOf p.2 (roomOf p.1)).1).1 (countsOf L) (roomsOf L) else (0, false)) else (0, false) := rfl
    rw [e] at h
    have e1 : wtW (wsOf (p :: L)) = p.2 * (((syms p.1).length - 1 : Nat) : Int) + wtW (wsOf L) := rfl
    rw [e1, syms_len]
    unfold mulOf at h
    split at h
    · simp only [cond_true] at h
      unfold addOf at h
      split at h
      · rename_i h2
        simp only [cond_true] at h
        obtain ⟨a, b⟩ := dot_wt L _ r h
        unfold roomOf at a h2
        exact ⟨by omega, fun _ => b h2.2.2⟩
      · simp only [cond_false, Prod.mk.injEq] at h
        exact absurd h.2 (by decide)
    · simp only [cond_false, Prod.mk.injEq] at h
      exact absurd h.2 (by decide)
set_option maxRecDepth 100000 in
/-- What a right table is. -/
theorem right_facts {L : Bag} (h : (checkOf L).2 = 0) : (∀ p ∈ L, 1 ≤ p.1.size ∧ 1 ≤ p.2) ∧ weighOf L = (wtW (wsOf L), true) ∧ wtW (wsOf L) ≤ 9223372036854775807 := by
  unfold checkOf at h
  split at h
  · rename_i k e he
    simp only at h
    subst h
    have : ∀ (L : Bag) (k : Nat) (o : Option (ByteArray × Int)) (j : Nat), checkFrom k o L ≠ some (j, 0) := by
      intro L
      induction L with
      | nil => intro k o j h; cases h
      | cons p r ih =>
        intro k o j h
        rw [checkFrom] at h
        split at h
        · exact ih _ _ _ h
        · rename_i h0
          simp only [Option.some.injEq, Prod.mk.injEq] at h
          exact h0 h.2
    exact absurd he (this _ _ _ _)
  · rename_i he
    have h1 := check_each L 0 none he
    cases hb : (weighOf L).2 with
    | false => rw [hb] at h; simp at h
    | true =>
      have h2 : weighOf L = ((weighOf L).1, true) := by rw [← hb]
      obtain ⟨a, b⟩ := dot_wt L 0 (weighOf L).1 h2
      rw [Int.zero_add] at a
      refine ⟨fun p hp => ?_, by rw [h2, a], by rw [← a]; exact b (by decide)⟩
      have := h1 p hp
      unfold wrongW at this
      split at this
      · cases this
      · omega
set_option maxRecDepth 100000 in
theorem wt_take {ws : List Wd} (h : ∀ x ∈ ws, 1 ≤ x.2) (k : Nat) : wtW (ws.take k) ≤ wtW ws := by
  have e : wtW (ws.take k) + wtW (ws.drop k) = wtW ws := by
    unfold wtW; rw [← sumW_app, List.take_append_drop]
  have := sumW_nonneg (g := fun x => x.2 * ((x.1.length - 1 : Nat) : Int)) (ws := ws.drop k) fun x hx => mulz (by have := h x (List.mem_of_mem_drop hx); omega) (by omega)
  unfold wtW at e ⊢
  omega
set_option maxRecDepth 100000 in
theorem len_take (ws : List Wd) (k : Nat) : lenW (ws.take k) ≤ lenW ws := by
  have e : lenW (ws.take k) + lenW (ws.drop k) = lenW ws := by
    unfold lenW; rw [← sumW_app, List.take_append_drop]
  have := sumW_nonneg (g := fun x : Wd => (x.1.length : Int)) (ws := ws.drop k) fun x _ => by omega
  unfold lenW at e ⊢
  omega
set_option maxRecDepth 100000 in
theorem ws_pos {L : Bag} (h : ∀ p ∈ L, 1 ≤ p.1.size ∧ 1 ≤ p.2) : ∀ x ∈ wsOf L, 1 ≤ x.2 := fun x hx => by
  obtain ⟨p, hp, rfl⟩ := List.mem_map.1 hx
  exact (h p hp).2
set_option maxRecDepth 100000 in
theorem GoodM.weaken {M : Mdl} {s : Int} {had had' : Int × Int → Int → Prop} (h : GoodM M s had) (k : ∀ q z, had q z → had' q z) : GoodM M s had' := { h with was := fun q z hz => k q z (h.was q z hz) }
/-- Who has which pair. -/
def hasW (ws : List Wd) (q : Int × Int) (z : Int) : Prop := ∃ (j : Nat) (X : List Int) (t : Int), z = (j : Int) ∧ ws[j]? = some (X, t) ∧ 0 < cntP X q
set_option maxRecDepth 100000 in
theorem hasW_take {ws : List Wd} {k : Nat} {X : List Int} {c : Int} (hk : k < ws.length) (hx : ws[k] = (X, c)) {q : Int × Int} {z : Int} (h : hasW (ws.take k) q z ∨ (z = ((ws.take k).length : Int) ∧ 0 < cntP X q)) : hasW (ws.take (k + 1)) q z := by
  rw [List.take_succ_eq_append_getElem hk]
  rcases h with ⟨j, X2, t2, e, hj, hc⟩ | ⟨e, hc⟩
  · exact ⟨j, X2, t2, e, by rw [List.getElem?_append_left (List.getElem?_eq_some_iff.1 hj).1]; exact hj, hc⟩
  · exact ⟨(ws.take k).length, X, c, e, by simp [hx], hc⟩
end Go.Proofs.YtnmacalbbmeedaaGreat
/- Symbols and the texts they stand for, as plain lists. -/
namespace Go.Proofs.YtnmacalbbmeedaaGreat

/-- A symbol that was joined: its text, and the two. -/
abbrev Joint := ByteArray × Int × Int
def noText : ByteArray := ⟨#[]⟩
def oneB (c : Nat) : ByteArray := ⟨#[UInt8.ofNat c]⟩
def ones : List ByteArray := (List.range 256).map oneB
/-- What each symbol stands for. -/
def textsOf (J : List Joint) : List ByteArray := ones ++ J.map (·.1)
set_option maxRecDepth 100000 in
theorem ones_len : ones.length = 256 := by simp [ones]
set_option maxRecDepth 100000 in
theorem texts_len (J : List Joint) : (textsOf J).length = 256 + J.length := by simp [textsOf, ones_len]
set_option maxRecDepth 100000 in
theorem ones_at {c : Nat} (h : c < ones.length) : ones[c] = oneB c := by simp [ones]
set_option maxRecDepth 100000 in
theorem texts_low {J : List Joint} {c : Nat} (h : c < 256) (h' : c < (textsOf J).length) : (textsOf J)[c] = oneB c := by
  refine (List.getElem_append_left (show c < ones.length by rw [ones_len]; exact h)).trans ?_
  exact ones_at _
set_option maxRecDepth 100000 in
theorem texts_high {J : List Joint} {k : Nat} (h : k < J.length) (h' : 256 + k < (textsOf J).length) : (textsOf J)[256 + k] = J[k].1 := by
  refine (List.getElem_append_right (show ones.length ≤ 256 + k by rw [ones_len]; omega)).trans ?_
  simp [ones_len]
/-- Is a symbol there? -/
def thereOf (J : List Joint) (id : Int) : Bool := decide (0 ≤ id) && decide (id < ((256 + J.length : Nat) : Int))
/-- What a symbol stands for. -/
def txtOf (J : List Joint) (id : Int) : ByteArray := if 0 ≤ id then (textsOf J).getD id.toNat noText else noText
set_option maxRecDepth 100000 in
theorem there_iff {J : List Joint} {id : Int} : thereOf J id = true ↔ 0 ≤ id ∧ id.toNat < (textsOf J).length := by
  unfold thereOf
  rw [Bool.and_eq_true, decide_eq_true_iff, decide_eq_true_iff, texts_len]
  constructor
  · rintro ⟨a, b⟩; exact ⟨a, by omega⟩
  · rintro ⟨a, b⟩; exact ⟨a, by omega⟩
set_option maxRecDepth 100000 in
theorem txt_there {J : List Joint} {id : Int} (h0 : 0 ≤ id) (h : id.toNat < (textsOf J).length) : txtOf J id = (textsOf J)[id.toNat] := by
  unfold txtOf
  rw [if_pos h0, List.getD_eq_getElem?_getD, List.getElem?_eq_getElem h]
  rfl
set_option maxRecDepth 100000 in
theorem txt_not {J : List Joint} {id : Int} (h : thereOf J id = false) : txtOf J id = noText := by
  unfold txtOf
  split
  · rename_i h0
    have : ¬ id.toNat < (textsOf J).length := fun k => by
      have := there_iff.2 ⟨h0, k⟩
      rw [h] at this; cases this
    rw [List.getD_eq_getElem?_getD, List.getElem?_eq_none (by omega)]
    rfl
  · rfl
/-- The first place of a text, from a place on. -/
def findFrom (k : Nat) : List ByteArray → ByteArray → Int × Bool
  | [], _ => (0, false)
  | t :: r, s => if t = s then ((k : Int), true) else findFrom (k + 1) r s
def findOf (J : List Joint) (s : ByteArray) : Int × Bool := findFrom 0 (textsOf J) s
set_option maxRecDepth 100000 in
theorem find_none {s : ByteArray} : ∀ {T : List ByteArray} {k : Nat}, s ∉ T → findFrom k T s = (0, false)
  | [], _, _ => rfl
  | t :: r, k, h => by
    unfold findFrom
    rw [if_neg (fun e => h (by rw [e]; exact List.mem_cons_self ..))]
    exact find_none fun e => h (List.mem_cons_of_mem _ e)
set_option maxRecDepth 100000 in
theorem find_some {s : ByteArray} : ∀ {T : List ByteArray} {k j : Nat} (hj : j < T.length), T.Nodup → T[j] = s → findFrom k T s = (((k + j : Nat) : Int), true)
  | t :: r, k, 0, _, _, h => by
    unfold findFrom
    rw [if_pos (show t = s from h)]; rfl
  | t :: r, k, j + 1, hj, hn, h => by
    obtain ⟨h1, h2⟩ := List.nodup_cons.1 hn
    have hj' : j < r.length := by simpa using hj
    have he : r[j] = s := by simpa using h
    unfold findFrom
    rw [if_neg (fun e => h1 (by rw [e, ← he]; exact List.getElem_mem hj')), find_some hj' h2 he]
    congr 2
    omega
set_option maxRecDepth 100000 in
theorem find_snd {s : ByteArray} : ∀ {T : List ByteArray} {k : Nat}, (findFrom k T s).2 = true ↔ s ∈ T
  | [], _ => by simp [findFrom]
  | t :: r, k => by
    unfold findFrom
    by_cases e : t = s
    · rw [if_pos e]; simp [e]
    · rw [if_neg e, find_snd]
      simp [Ne.symm e]
/-- To join two symbols: the new one, the error's number, and what there is then. -/
def joinOf (J : List Joint) (a b : Int) : (Int × Int) × List Joint :=
  if (thereOf J a && thereOf J b) = true then
    if 65536 < (txtOf J a).size + (txtOf J b).size then ((0, 4), J)
    else if (findOf J (txtOf J a ++ txtOf J b)).2 = true then ((0, 8), J)
    else ((((256 + J.length : Nat) : Int), 0), J ++ [(txtOf J a ++ txtOf J b, a, b)])
  else ((0, 1), J)
set_option maxRecDepth 100000 in
theorem join_arg {J : List Joint} {a b : Int} (h : (thereOf J a && thereOf J b) = false) : joinOf J a b = ((0, 1), J) := by
  unfold joinOf; rw [h]; rfl
set_option maxRecDepth 100000 in
theorem join_long {J : List Joint} {a b : Int} (h : (thereOf J a && thereOf J b) = true) (hl : 65536 < (txtOf J a).size + (txtOf J b).size) : joinOf J a b = ((0, 4), J) := by
  unfold joinOf; rw [if_pos h, if_pos hl]
set_option maxRecDepth 100000 in
theorem join_repeat {J : List Joint} {a b : Int} (h : (thereOf J a && thereOf J b) = true) (hl : ¬ 65536 < (txtOf J a).size + (txtOf J b).size) (hf : (findOf J (txtOf J a ++ txtOf J b)).2 = true) : joinOf J a b = ((0, 8), J) := by
  unfold joinOf; rw [if_pos h, if_neg hl, if_pos hf]
set_option maxRecDepth 100000 in
theorem join_new {J : List Joint} {a b : Int} (h : (thereOf J a && thereOf J b) = true) (hl : ¬ 65536 < (txtOf J a).size + (txtOf J b).size) (hf : (findOf J (txtOf J a ++ txtOf J b)).2 = false) :
    joinOf J a b = ((((256 + J.length : Nat) : Int), 0), J ++ [(txtOf J a ++ txtOf J b, a, b)]) := by
  unfold joinOf; rw [if_pos h, if_neg hl, hf]; rfl
/-- What is true of any table. -/
structure Good (J : List Joint) : Prop where
  nodup : (textsOf J).Nodup
  size : ∀ p ∈ J, 2 ≤ p.1.size ∧ p.1.size ≤ 65536
  each : ∀ k (h : k < J.length), (0 ≤ J[k].2.1 ∧ J[k].2.1 < ((256 + k : Nat) : Int)) ∧ (0 ≤ J[k].2.2 ∧ J[k].2.2 < ((256 + k : Nat) : Int)) ∧ J[k].1 = txtOf J J[k].2.1 ++ txtOf J J[k].2.2
set_option maxRecDepth 100000 in
theorem oneB_size (c : Nat) : (oneB c).size = 1 := rfl
set_option maxRecDepth 100000 in
theorem oneB_inj {a b : Nat} (ha : a < 256) (hb : b < 256) (h : oneB a = oneB b) : a = b := by
  have h1 : UInt8.ofNat a = UInt8.ofNat b := by
    have := congrArg ByteArray.data h
    simpa [oneB] using this
  have h2 := congrArg UInt8.toNat h1
  simp only [UInt8.toNat_ofNat'] at h2
  omega
set_option maxRecDepth 100000 in
theorem ones_nodup : ones.Nodup := by
  refine List.pairwise_iff_getElem.2 fun i j hi hj hij e => ?_
  rw [ones_at, ones_at] at e
  rw [ones_len] at hi hj
  have := oneB_inj hi hj e
  omega
set_option maxRecDepth 100000 in
theorem good_nil : Good [] := ⟨by unfold textsOf; simpa using ones_nodup, by simp, by simp⟩
set_option maxRecDepth 100000 in
theorem texts_more (J : List Joint) (p : Joint) : textsOf (J ++ [p]) = textsOf J ++ [p.1] := by simp [textsOf]
set_option maxRecDepth 100000 in
theorem txt_more {J : List Joint} {p : Joint} {id : Int} (h : thereOf J id = true) : txtOf (J ++ [p]) id = txtOf J id := by
  obtain ⟨h0, h1⟩ := there_iff.1 h
  have h2 : id.toNat < (textsOf (J ++ [p])).length := by rw [texts_more, List.length_append]; omega
  rw [txt_there h0 h1, txt_there h0 h2]
  simp only [texts_more]
  rw [List.getElem_append_left h1]
set_option maxRecDepth 100000 in
theorem size_app (a b : ByteArray) : (a ++ b).size = a.size + b.size := ByteArray.size_append
set_option maxRecDepth 100000 in
theorem txt_size {J : List Joint} (hg : Good J) {id : Int} (h : thereOf J id = true) : 1 ≤ (txtOf J id).size ∧ (txtOf J id).size ≤ 65536 := by
  obtain ⟨h0, h1⟩ := there_iff.1 h
  rw [txt_there h0 h1]
  have hm := List.getElem_mem h1
  rcases List.mem_append.1 hm with k | k
  · obtain ⟨c, _, e⟩ := List.mem_map.1 k
    rw [← e, oneB_size]; omega
  · obtain ⟨p, hp, e⟩ := List.mem_map.1 k
    have := hg.size p hp
    rw [← e]; omega
set_option maxRecDepth 100000 in
theorem txt_le {J : List Joint} (hg : Good J) (id : Int) : (txtOf J id).size ≤ 65536 := by
  cases h : thereOf J id with
  | true => exact (txt_size hg h).2
  | false => rw [txt_not h]; exact Nat.zero_le _
set_option maxRecDepth 100000 in
theorem good_join {J : List Joint} (hg : Good J) (a b : Int) : Good (joinOf J a b).2 := by
  cases h : (thereOf J a && thereOf J b) with
  | false => rw [join_arg h]; exact hg
  | true =>
    by_cases hl : 65536 < (txtOf J a).size + (txtOf J b).size
    · rw [join_long h hl]; exact hg
    · cases hf : (findOf J (txtOf J a ++ txtOf J b)).2 with
      | true => rw [join_repeat h hl hf]; exact hg
      | false =>
        rw [join_new h hl hf]
        obtain ⟨ha, hb⟩ := Bool.and_eq_true_iff.1 h
        have sa := txt_size hg ha
        have sb := txt_size hg hb
        have hn : txtOf J a ++ txtOf J b ∉ textsOf J := fun k => by
          have := (find_snd (k := 0)).2 k
          rw [show findFrom 0 (textsOf J) (txtOf J a ++ txtOf J b) = findOf J (txtOf J a ++ txtOf J b) from rfl, hf] at this
          cases this
        refine ⟨?_, ?_, ?_⟩
        · rw [texts_more]
          refine List.nodup_append.2 ⟨hg.nodup, by simp, fun x hx y hy => ?_⟩
          rw [List.mem_singleton] at hy
          rintro rfl
          exact hn (by rw [hy] at hx; exact hx)
        · intro p hp
          rcases List.mem_append.1 hp with k | k
          · exact hg.size p k
          · rw [List.mem_singleton] at k
            subst k
            show 2 ≤ (txtOf J a ++ txtOf J b).size ∧ (txtOf J a ++ txtOf J b).size ≤ 65536
            rw [size_app]; omega
        · intro k hk
          have lo : ∀ {id : Int} {m : Nat}, m ≤ J.length → (0 ≤ id ∧ id < ((256 + m : Nat) : Int)) → thereOf J id = true := fun hm h => there_iff.2 ⟨h.1, by rw [texts_len]; omega⟩
          by_cases hk2 : k < J.length
          · rw [List.getElem_append_left hk2]
            obtain ⟨e1, e2, e3⟩ := hg.each k hk2
            refine ⟨e1, e2, ?_⟩
            rw [txt_more (lo (by omega) e1), txt_more (lo (by omega) e2)]
            exact e3
          · have hk3 : k = J.length := by rw [List.length_append, List.length_singleton] at hk; omega
            subst hk3
            rw [List.getElem_append_right (by omega)]
            simp only [Nat.sub_self, List.getElem_singleton]
            rw [txt_more ha, txt_more hb]
            obtain ⟨a0, a1⟩ := there_iff.1 ha
            obtain ⟨b0, b1⟩ := there_iff.1 hb
            rw [texts_len] at a1 b1
            exact ⟨⟨a0, by omega⟩, ⟨b0, by omega⟩, rfl⟩
/-- What the map of a table holds. -/
def MapOf (J : List Joint) (L : Bag) : Prop := Rising L ∧ L.length ≤ J.length ∧ ∀ s c, (s, c) ∈ L ↔ ∃ k, ∃ h : k < J.length, J[k].1 = s ∧ c = ((256 + k : Nat) : Int)
set_option maxRecDepth 100000 in
theorem mapOf_nil : MapOf [] [] := ⟨List.Pairwise.nil, Nat.le_refl _, fun s c => by simp⟩
set_option maxRecDepth 100000 in
theorem mapOf_more {J : List Joint} {L : Bag} (h : MapOf J L) {p : Joint} (hn : ∀ q ∈ J, q.1 ≠ p.1) : MapOf (J ++ [p]) (putW p.1 ((256 + J.length : Nat) : Int) L) := by
  obtain ⟨h1, h2, h3⟩ := h
  refine ⟨rising_putW h1, by have := len_putW p.1 ((256 + J.length : Nat) : Int) L; rw [List.length_append, List.length_singleton]; omega, fun s c => ?_⟩
  rw [mem_putW h1, h3]
  constructor
  · rintro (e | ⟨⟨k, hk, e1, e2⟩, _⟩)
    · simp only [Prod.mk.injEq] at e
      exact ⟨J.length, by simp, by simp [e.1], e.2⟩
    · exact ⟨k, by rw [List.length_append]; omega, by rw [List.getElem_append_left hk]; exact e1, e2⟩
  · rintro ⟨k, hk, e1, e2⟩
    by_cases hk2 : k < J.length
    · rw [List.getElem_append_left hk2] at e1
      exact .inr ⟨⟨k, hk2, e1, e2⟩, by show s ≠ p.1; rw [← e1]; exact hn _ (List.getElem_mem hk2)⟩
    · have hk3 : k = J.length := by rw [List.length_append, List.length_singleton] at hk; omega
      subst hk3
      rw [List.getElem_append_right (by omega)] at e1
      simp only [Nat.sub_self, List.getElem_singleton] at e1
      exact .inl (by rw [e1, e2])
set_option maxRecDepth 100000 in
theorem find_one {J : List Joint} (hg : Good J) {s : ByteArray} (h : s.size = 1) : findOf J s = (((s[0]'(by omega)).toNat : Int), true) := by
  have hc : (s[0]'(by omega)).toNat < 256 := UInt8.toNat_lt _
  have hl : (s[0]'(by omega)).toNat < (textsOf J).length := by rw [texts_len]; omega
  have e : (textsOf J)[(s[0]'(by omega)).toNat] = s := by
    rw [texts_low hc]
    unfold oneB
    rw [UInt8.ofNat_toNat]
    refine ByteArray.ext ?_
    refine Array.ext ?_ fun i h1 h2 => ?_
    · show 1 = s.size; rw [h]
    · have : i = 0 := by have h1' : i < 1 := h1; omega
      subst this
      rfl
  unfold findOf
  rw [find_some hl hg.nodup e]
  simp
set_option maxRecDepth 100000 in
theorem find_map {J : List Joint} (hg : Good J) {L : Bag} (hm : MapOf J L) {s : ByteArray} (h : s.size ≠ 1) : findOf J s = (countOf L s, L.any (fun p => p.1 = s)) := by
  obtain ⟨h1, h2, h3⟩ := hm
  rcases countOf_cases L s with ⟨e1, e2⟩ | e1
  · have : s ∉ textsOf J := by
      intro hs
      rcases List.mem_append.1 hs with k | k
      · obtain ⟨c, _, e⟩ := List.mem_map.1 k
        exact h (by rw [← e, oneB_size])
      · obtain ⟨p, hp, e⟩ := List.mem_map.1 k
        obtain ⟨j, hj, rfl⟩ := List.mem_iff_getElem.1 hp
        exact e2 _ ((h3 s _).2 ⟨j, hj, e, rfl⟩) rfl
    unfold findOf
    rw [find_none this, e1]
    congr 1
    symm
    refine List.any_eq_false.2 fun p hp => ?_
    simpa using e2 p hp
  · obtain ⟨k, hk, e2, e3⟩ := (h3 _ _).1 e1
    have hl : 256 + k < (textsOf J).length := by rw [texts_len]; omega
    unfold findOf
    rw [find_some hl hg.nodup (by rw [texts_high hk]; exact e2), e3, Nat.zero_add]
    congr 1
    symm
    exact List.any_eq_true.2 ⟨_, e1, by simp⟩
/-- How a symbol was made. -/
def jointOf (J : List Joint) (id : Int) : Joint × Bool := if h : 256 ≤ id ∧ id < ((256 + J.length : Nat) : Int) then (J[(id - 256).toNat]'(by omega), true) else ((noText, 0, 0), false)
set_option maxRecDepth 100000 in
theorem joint_not {J : List Joint} {id : Int} (h : ¬ (256 ≤ id ∧ id < ((256 + J.length : Nat) : Int))) : jointOf J id = ((noText, 0, 0), false) := by unfold jointOf; rw [dif_neg h]
set_option maxRecDepth 100000 in
theorem joint_yes {J : List Joint} {id : Int} {k : Nat} (hk : k < J.length) (h : id = ((256 + k : Nat) : Int)) : jointOf J id = (J[k], true) := by
  unfold jointOf
  rw [dif_pos (by omega)]
  have : (id - 256).toNat = k := by omega
  simp only [this]
set_option maxRecDepth 100000 in
theorem joint_txt {J : List Joint} {id : Int} (h : 256 ≤ id) : (jointOf J id).1.1 = txtOf J id ∧ (jointOf J id).2 = thereOf J id := by
  by_cases h2 : id < ((256 + J.length : Nat) : Int)
  · obtain ⟨k, hk⟩ : ∃ k : Nat, id = ((256 + k : Nat) : Int) := ⟨(id - 256).toNat, by omega⟩
    have hkJ : k < J.length := by omega
    subst hk
    rw [joint_yes hkJ rfl]
    have ht : thereOf J ((256 + k : Nat) : Int) = true := there_iff.2 ⟨by omega, by rw [texts_len]; omega⟩
    obtain ⟨h0, h1⟩ := there_iff.1 ht
    refine ⟨?_, ht.symm⟩
    rw [txt_there h0 h1]
    exact (texts_high hkJ (by rw [texts_len]; omega)).symm
  · rw [joint_not (by omega)]
    have ht : thereOf J id = false := by
      cases e : thereOf J id
      · rfl
      · obtain ⟨h0, h1⟩ := there_iff.1 e
        rw [texts_len] at h1
        omega
    exact ⟨(txt_not ht).symm, ht.symm⟩
set_option maxRecDepth 100000 in
theorem find_txt {J : List Joint} (hg : Good J) {a : Int} (h : thereOf J a = true) : findOf J (txtOf J a) = (a, true) := by
  obtain ⟨h0, h1⟩ := there_iff.1 h
  unfold findOf
  rw [txt_there h0 h1, find_some h1 hg.nodup rfl]
  congr 1
  omega
set_option maxRecDepth 100000 in
theorem txt_inj {J : List Joint} (hg : Good J) {a b : Int} (ha : thereOf J a = true) (hb : thereOf J b = true) (h : txtOf J a = txtOf J b) : a = b := by
  have h1 := find_txt hg ha
  rw [h, find_txt hg hb] at h1
  simp only [Prod.mk.injEq, and_true] at h1
  exact h1.symm
set_option maxRecDepth 100000 in
theorem not_found {J : List Joint} {s : ByteArray} (h : (findOf J s).2 = false) : ∀ q ∈ J, q.1 ≠ s := by
  intro q hq e
  have := (find_snd (T := textsOf J) (s := s) (k := 0)).2 (List.mem_append_right _ (List.mem_map.2 ⟨q, hq, e⟩))
  unfold findOf at h
  rw [h] at this
  cases this
/-- What was joined, in its order. -/
def mergesOf (J : List Joint) : List (ByteArray × ByteArray) := J.map fun p => (txtOf J p.2.1, txtOf J p.2.2)
set_option maxRecDepth 100000 in
theorem merges_len (J : List Joint) : (mergesOf J).length = J.length := by simp [mergesOf]
set_option maxRecDepth 100000 in
theorem mapOf_none {J : List Joint} (h : MapOf J []) : J = [] := by
  cases J with
  | nil => rfl
  | cons p r =>
    have := (h.2.2 p.1 ((256 + 0 : Nat) : Int)).2 ⟨0, by simp, rfl, rfl⟩
    simp at this
end Go.Proofs.YtnmacalbbmeedaaGreat
/- A map of texts to numbers. -/
namespace Go.Proofs.YtnmacalbbmeedaaGreat
open Go.RowKit Go.Maps

set_option maxRecDepth 100000 in
theorem law9 : Keyed Tryz.prog 9 := string_keyed Tryz.underlying9
set_option maxRecDepth 100000 in
theorem zero3 (w : World) : (zeroValue 3).run Tryz.prog w = .ok (.int .i64 0) w := by kernel_rfl
/-- Block m, if any, is a map of the words L. -/
def mapIs (w : World) (b : Option Nat) (L : Bag) : Prop :=
  match b with
  | none => L = []
  | some m => w.ownsMap Tryz.prog 9 (plainElem Tryz.prog 3) m L.length (bagD L)
set_option maxRecDepth 100000 in
theorem mapIs.kept {w w' : World} {b : Option Nat} {L : Bag} (h : mapIs w b L) (hk : ∀ m, b = some m → w'.heap[m]? = w.heap[m]?) : mapIs w' b L := by
  cases b with
  | none => exact h
  | some m =>
    obtain ⟨es, clock, hb, rest⟩ := h
    exact ⟨es, clock, (hk m rfl).trans hb, rest⟩
set_option maxRecDepth 100000 in
theorem mapIs.lt {w : World} {m : Nat} {L : Bag} (h : mapIs w (some m) L) : m < w.heap.size := World.ownsMap.lt h
set_option maxRecDepth 100000 in
theorem mapIs.block {w : World} {m : Nat} {L : Bag} (h : mapIs w (some m) L) : ∃ es clock, w.heap[m]? = some (.map es clock) := by
  obtain ⟨es, clock, hb, _⟩ := h
  exact ⟨es, clock, hb⟩
set_option maxRecDepth 100000 in
theorem tight {w : World} {m n : Nat} {L : Bag} (h : w.ownsMap Tryz.prog 9 (plainElem Tryz.prog 3) m n (bagD L)) : w.ownsMap Tryz.prog 9 (plainElem Tryz.prog 3) m L.length (bagD L) := by
  obtain ⟨es, clock, hb, F, hs, hD⟩ := h
  refine ⟨es, clock, hb, F, ?_, hD⟩
  have e : ents L = (es.toList.map (WideElems.rg Tryz.prog 9 (plainElem Tryz.prog 3))).foldr DataW.insert [] := by
    unfold bagD at hD
    injection hD
  have := congrArg List.length e
  rw [length_sorted] at this
  simp [ents] at this
  omega
set_option maxRecDepth 100000 in
theorem has_any (L : Bag) (s : ByteArray) : Maps.has (bagD L) (.string (bs s)) = L.any (fun p => p.1 = s) := by
  unfold bagD
  rw [Maps.has_eq]
  unfold ents
  rw [List.any_map]
  congr 1
  funext p
  simp only [Function.comp, Lit.sameKey]
  by_cases e : p.1 = s
  · simp [e]
  · simp only [e, decide_false]
    exact beq_eq_false_iff_ne.2 fun k => e (bs_inj k)
set_option maxRecDepth 100000 in
/-- 'v, ok := m[s]'. -/
theorem look2_run {w : World} {b : Option Nat} {L : Bag} (h : mapIs w b L) (s : ByteArray) (hs : s.size ≤ 9223372036854775807) : (Instr.lookup 105 (.map b) (.string s) true).run Tryz.prog w = .ok (.tuple #[.int .i64 (countOf L s), .bool (L.any (fun p => p.1 = s))]) w := by
  have hkey := Go.WideMaps.keyOf_string_mk (P := Tryz.prog) Tryz.underlying9 (s := s) (by unfold maxLen; exact hs)
  cases b with
  | none =>
    have e : L = [] := h
    subst e
    exact look_nil true law9 Tryz.underlying105 (zero3 w) hkey
  | some m =>
    obtain ⟨v, ps, hrun, hv⟩ := World.ownsMap.look_ok h law9 Tryz.underlying105 (zero3 w) (plainElem_int (H := Unit) Tryz.underlying3 (a := 0) (by decide)) hkey
    obtain ⟨c, rfl, hz, _⟩ := plainElem_int_inv Tryz.underlying3 hv
    have hat : (bagD L).atKey (.string (bs s)) (.lit (.int .i64 0)) = .lit (.int .i64 c) := congrArg Prod.fst hz
    rw [atKey_count] at hat
    simp only [DataW.lit.injEq, Lit.int.injEq, true_and] at hat
    rw [hrun, hat]
    congr 3
    rw [← has_any]
set_option maxRecDepth 100000 in
theorem put_run {w : World} {m : Nat} {L : Bag} (h : mapIs w (some m) L) (hr : Rising L) (s : ByteArray) (c : Int) (hs : s.size ≤ 9223372036854775807) (hl : L.length ≤ 1048576) (c0 : 0 ≤ c) (c1 : c ≤ 9223372036854775807) :
    ∃ w', (Instr.mapUpdate 105 (.map (some m)) (.string s) (.int .i64 c)).run Tryz.prog w = .ok () w' ∧ mapIs w' (some m) (putW s c L) ∧ w.grownBy w' (some m) := by
  have hkey := Go.WideMaps.keyOf_string_mk (P := Tryz.prog) Tryz.underlying9 (s := s) (by unfold maxLen; exact hs)
  obtain ⟨w', hrun, hown, hg⟩ := World.ownsMap.update h law9 Tryz.underlying105 (by unfold maxLen; omega) hkey (plainElem_int (H := Unit) Tryz.underlying3 (a := c) (WalkArith.wf_i64 (by omega)))
  rw [put_bagD hr] at hown
  exact ⟨w', hrun, tight hown, hg⟩
set_option maxRecDepth 100000 in
theorem eqMap_none (w : World) : (binOp .eql 105 (.map none) (.map none)).run Tryz.prog w = .ok (.bool true) w := by kernel_rfl
set_option maxRecDepth 100000 in
theorem eqMap_some (m : Nat) (w : World) : (binOp .eql 105 (.map (some m)) (.map none)).run Tryz.prog w = .ok (.bool false) w := by kernel_rfl
end Go.Proofs.YtnmacalbbmeedaaGreat
