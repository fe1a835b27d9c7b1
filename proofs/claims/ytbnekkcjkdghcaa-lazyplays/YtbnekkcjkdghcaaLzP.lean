/- A queue, as plain lists. -/
import Derived.Test.YtbnekkcjkdghcaaEEnt
import Derived.Test.YtbnekkcjkdghcaaCMap
namespace Go.Proofs.Ytbnekkcjkdghcaa
open Go.RowKit Go.Maps

/-- A queue: its entries (in any order), what it knows, and what it has counted. -/
structure Qm where
  ents : List Item
  known : Cn
  pu : Int
  po : Int
  pk : Int
  re : Int
def pairI (x : Item) : Int × Int := (x.1, x.2.1)
def itemC (x : (Int × Int) × Int) : Item := (x.1.1, x.1.2, x.2)
def itemsOf (M : Cn) : List Item := M.map itemC
set_option maxRecDepth 100000 in
theorem itemsOf_len (M : Cn) : (itemsOf M).length = M.length := by simp [itemsOf]
set_option maxRecDepth 100000 in
theorem mem_itemsOf {M : Cn} {x : Item} : x ∈ itemsOf M ↔ (pairI x, x.2.2) ∈ M := by
  unfold itemsOf
  rw [List.mem_map]
  constructor
  · rintro ⟨⟨⟨a, b⟩, c⟩, h, rfl⟩; exact h
  · intro h; exact ⟨_, h, rfl⟩
/-- Is it to be built anew? -/
def manyQ (e k : Nat) : Bool := decide (16 < e) && decide (2 * k < e)
/-- Put. -/
def putQ (q : Qm) (p : Int × Int) (n : Int) : Qm :=
  if n < 1 then { q with known := delC q.known p }
  else bif manyQ (q.ents.length + 1) (insC p n q.known).length then ⟨itemsOf (insC p n q.known), insC p n q.known, q.pu + 1, q.po, max q.pk ((q.ents.length + 1 : Nat) : Int), q.re + 1⟩
  else ⟨q.ents ++ [(p.1, p.2, n)], insC p n q.known, q.pu + 1, q.po, max q.pk ((q.ents.length + 1 : Nat) : Int), q.re⟩
/-- What is sane of it: all symbols are there, and it has not more than was put. -/
structure SaneQ (J : List Joint) (q : Qm) : Prop where
  ents : ∀ x ∈ q.ents, FitsI x ∧ thereOf J x.1 = true ∧ thereOf J x.2.1 = true ∧ 1 ≤ x.2.2
  known : ∀ x ∈ q.known, FitsPr x.1 ∧ thereOf J x.1.1 = true ∧ thereOf J x.1.2 = true ∧ 1 ≤ x.2 ∧ x.2 ≤ 9223372036854775807
  ris : RisC q.known
  po : 0 ≤ q.po
  cnt : q.po + q.ents.length ≤ q.pu
  len : (q.known.length : Int) ≤ q.pu
  re : 0 ≤ q.re ∧ q.re ≤ q.pu
def newQ : Qm := ⟨[], [], 0, 0, 0, 0⟩
set_option maxRecDepth 100000 in
theorem saneQ_new (J : List Joint) : SaneQ J newQ := ⟨fun x hx => by simp [newQ] at hx, fun x hx => by simp [newQ] at hx, List.Pairwise.nil, by simp [newQ], by simp [newQ], by simp [newQ], by simp [newQ]⟩
set_option maxRecDepth 100000 in
theorem ins_len_le {M : Cn} (h : RisC M) (p : Int × Int) (n : Int) : (insC p n M).length ≤ M.length + 1 := by
  rw [len_ins h]; split <;> omega
set_option maxRecDepth 100000 in
theorem del_len_le (M : Cn) (p : Int × Int) : (delC M p).length ≤ M.length := List.length_filter_le _ _
set_option maxRecDepth 100000 in
theorem known_ins {J : List Joint} {q : Qm} (h : SaneQ J q) {p : Int × Int} {n : Int} (hp : FitsPr p) (h1 : thereOf J p.1 = true) (h2 : thereOf J p.2 = true) (hn : 1 ≤ n) (hn2 : n ≤ 9223372036854775807) :
    ∀ x ∈ insC p n q.known, FitsPr x.1 ∧ thereOf J x.1.1 = true ∧ thereOf J x.1.2 = true ∧ 1 ≤ x.2 ∧ x.2 ≤ 9223372036854775807 := by
  intro x hx
  rcases ins_mem.1 hx with rfl | ⟨hx, _⟩
  · exact ⟨hp, h1, h2, hn, hn2⟩
  · exact h.known x hx
set_option maxRecDepth 100000 in
theorem SaneQ.put {J : List Joint} {q : Qm} (h : SaneQ J q) {p : Int × Int} {n : Int} (hp : FitsPr p) (h1 : thereOf J p.1 = true) (h2 : thereOf J p.2 = true) (hn2 : n ≤ 9223372036854775807) : SaneQ J (putQ q p n) := by
  unfold putQ
  have hl := h.len
  have hc := h.cnt
  have hr := h.re
  have ho := h.po
  split
  · refine ⟨h.ents, fun x hx => h.known x (del_mem.1 hx).1, ris_del h.ris p, ho, hc, ?_, hr⟩
    have := del_len_le q.known p
    simp only; omega
  · rename_i hn
    have hi := ins_len_le h.ris p n
    cases hm : manyQ (q.ents.length + 1) (insC p n q.known).length with
    | true =>
      rw [cond_true]
      have hm' : 16 < q.ents.length + 1 ∧ 2 * (insC p n q.known).length < q.ents.length + 1 := by simpa [manyQ] using hm
      refine ⟨fun x hx => ?_, known_ins h hp h1 h2 (by omega) hn2, ris_ins h.ris, ho, ?_, by simp only; omega, by simp only; omega⟩
      · have h3 := known_ins h hp h1 h2 (by omega) hn2 _ (mem_itemsOf.1 hx)
        exact ⟨⟨h3.1.1, h3.1.2, by unfold FitsN; omega⟩, h3.2.1, h3.2.2.1, h3.2.2.2.1⟩
      · simp only [itemsOf_len]; omega
    | false =>
      rw [cond_false]
      refine ⟨fun x hx => ?_, known_ins h hp h1 h2 (by omega) hn2, ris_ins h.ris, ho, by simp only [List.length_append, List.length_singleton]; omega, by simp only; omega, by simp only; omega⟩
      rcases List.mem_append.1 hx with hx | hx
      · exact h.ents x hx
      · rw [List.mem_singleton] at hx
        subst hx
        exact ⟨⟨hp.1, hp.2, by unfold FitsN; simp only; omega⟩, h1, h2, by simp only; omega⟩
/-- Entries are taken, the better ones first, until one is live: which one, what is left, how many were taken. -/
inductive Pops (J : List Joint) (f : Int × Int → Int) : List Item → Option Item → List Item → Nat → Prop where
  | none : Pops J f [] .none [] 0
  | hit {E r : List Item} {x : Item} (hp : E.Perm (x :: r)) (hb : ∀ y ∈ E, betterOf J y x = false) (hf : f (pairI x) = x.2.2) : Pops J f E (.some x) r 1
  | miss {E r l : List Item} {x : Item} {o : Option Item} {n : Nat} (hp : E.Perm (x :: r)) (hb : ∀ y ∈ E, betterOf J y x = false) (hf : f (pairI x) ≠ x.2.2) (k : Pops J f r o l n) : Pops J f E o l (n + 1)
variable {J : List Joint} {f : Int × Int → Int}
set_option maxRecDepth 100000 in
/-- Of items whose symbols are there two than which none is better are one. -/
theorem best_one (hg : Good J) {E : List Item} (ht : ∀ x ∈ E, FitsI x ∧ thereOf J x.1 = true ∧ thereOf J x.2.1 = true ∧ 1 ≤ x.2.2) {x y : Item} (hx : x ∈ E) (hy : y ∈ E) (h1 : ∀ z ∈ E, betterOf J z x = false) (h2 : ∀ z ∈ E, betterOf J z y = false) : x = y := by
  have hxy := h2 x hx
  have hyx := h1 y hy
  by_cases e : x.1 = y.1 ∧ x.2.1 = y.2.1
  · rcases better_total hxy with k | ⟨k, _⟩
    · rw [hyx] at k; cases k
    · obtain ⟨a, b, c⟩ := x
      obtain ⟨a', b', c'⟩ := y
      simp only at e k
      rw [e.1, e.2, k]
  · have := better_one hg (ht x hx).2.1 (ht x hx).2.2.1 (ht y hy).2.1 (ht y hy).2.2.1 e hxy
    rw [hyx] at this; cases this
set_option maxRecDepth 100000 in
theorem Pops.sub {E l : List Item} {o : Option Item} {n : Nat} (h : Pops J f E o l n) : ∀ x ∈ l, x ∈ E := by
  induction h with
  | none => exact fun _ h => h
  | hit hp hb hf => exact fun x hx => hp.mem_iff.2 (List.mem_cons_of_mem _ hx)
  | miss hp hb hf k ih => exact fun x hx => hp.mem_iff.2 (List.mem_cons_of_mem _ (ih x hx))
set_option maxRecDepth 100000 in
theorem Pops.len {E l : List Item} {o : Option Item} {n : Nat} (h : Pops J f E o l n) : l.length + n = E.length := by
  induction h with
  | none => rfl
  | hit hp hb hf => rw [hp.length_eq]; simp
  | miss hp hb hf k ih => rw [hp.length_eq, List.length_cons]; omega
set_option maxRecDepth 100000 in
theorem Pops.one (hg : Good J) {E l : List Item} {o : Option Item} {n : Nat} (h : Pops J f E o l n) : ∀ {E2 l2 : List Item} {o2 : Option Item} {n2 : Nat}, Pops J f E2 o2 l2 n2 → E.Perm E2 → (∀ x ∈ E, FitsI x ∧ thereOf J x.1 = true ∧ thereOf J x.2.1 = true ∧ 1 ≤ x.2.2) → o = o2 ∧ n = n2 ∧ l.Perm l2 := by
  induction h with
  | none =>
    intro E2 l2 o2 n2 k hp _
    have := hp.symm.eq_nil
    subst this
    cases k with
    | none => exact ⟨rfl, rfl, List.Perm.refl _⟩
    | hit hp2 _ _ => exact absurd hp2.symm.eq_nil (by simp)
    | miss hp2 _ _ _ => exact absurd hp2.symm.eq_nil (by simp)
  | @hit E r x hp hb hf =>
    intro E2 l2 o2 n2 k hq ht
    have hxE : x ∈ E := hp.mem_iff.2 List.mem_cons_self
    cases k with
    | none => exact absurd (hp.symm.trans hq).eq_nil (by simp)
    | @hit _ r2 x2 hp2 hb2 hf2 =>
      have e : x = x2 := best_one hg ht hxE (hq.mem_iff.2 (hp2.mem_iff.2 List.mem_cons_self)) hb fun z hz => hb2 z (hq.mem_iff.1 hz)
      subst e
      exact ⟨rfl, rfl, ((hp.symm.trans hq).trans hp2).cons_inv⟩
    | @miss _ r2 _ x2 _ _ hp2 hb2 hf2 k2 =>
      have e : x = x2 := best_one hg ht hxE (hq.mem_iff.2 (hp2.mem_iff.2 List.mem_cons_self)) hb fun z hz => hb2 z (hq.mem_iff.1 hz)
      subst e
      exact absurd hf hf2
  | @miss E r l x o n hp hb hf k ih =>
    intro E2 l2 o2 n2 k2 hq ht
    have hxE : x ∈ E := hp.mem_iff.2 List.mem_cons_self
    cases k2 with
    | none => exact absurd (hp.symm.trans hq).eq_nil (by simp)
    | @hit _ r2 x2 hp2 hb2 hf2 =>
      have e : x = x2 := best_one hg ht hxE (hq.mem_iff.2 (hp2.mem_iff.2 List.mem_cons_self)) hb fun z hz => hb2 z (hq.mem_iff.1 hz)
      subst e
      exact absurd hf2 hf
    | @miss _ r2 l3 x2 o3 n3 hp2 hb2 hf2 k3 =>
      have e : x = x2 := best_one hg ht hxE (hq.mem_iff.2 (hp2.mem_iff.2 List.mem_cons_self)) hb fun z hz => hb2 z (hq.mem_iff.1 hz)
      subst e
      obtain ⟨a, b, c⟩ := ih k3 ((hp.symm.trans hq).trans hp2).cons_inv fun y hy => ht y (hp.mem_iff.2 (List.mem_cons_of_mem _ hy))
      exact ⟨a, by rw [b], c⟩
set_option maxRecDepth 100000 in
/-- What a live one is among those that are live: none is better; the others are left. -/
theorem Pops.some {E l : List Item} {o : Option Item} {n : Nat} (h : Pops J f E o l n) : ∀ x, o = .some x → x ∈ E ∧ f (pairI x) = x.2.2 ∧ (∀ y ∈ E, f (pairI y) = y.2.2 → betterOf J y x = false) ∧ (∀ y ∈ E, f (pairI y) = y.2.2 → y = x ∨ y ∈ l) := by
  induction h with
  | none => intro x e; cases e
  | @hit E r z hp hb hf =>
    intro x e
    cases e
    refine ⟨hp.mem_iff.2 List.mem_cons_self, hf, fun y hy _ => hb y hy, fun y hy _ => ?_⟩
    exact List.mem_cons.1 (hp.mem_iff.1 hy)
  | @miss E r l z o n hp hb hf k ih =>
    intro x e
    obtain ⟨h1, h2, h3, h4⟩ := ih x e
    refine ⟨hp.mem_iff.2 (List.mem_cons_of_mem _ h1), h2, fun y hy hl => ?_, fun y hy hl => ?_⟩
    · rcases List.mem_cons.1 (hp.mem_iff.1 hy) with rfl | hy
      · exact absurd hl hf
      · exact h3 y hy hl
    · rcases List.mem_cons.1 (hp.mem_iff.1 hy) with rfl | hy
      · exact absurd hl hf
      · exact h4 y hy hl
set_option maxRecDepth 100000 in
theorem Pops.nothing {E l : List Item} {o : Option Item} {n : Nat} (h : Pops J f E o l n) : o = .none → l = [] ∧ ∀ y ∈ E, f (pairI y) ≠ y.2.2 := by
  induction h with
  | none => exact fun _ => ⟨rfl, fun y hy => by simp at hy⟩
  | hit hp hb hf => intro e; cases e
  | miss hp hb hf k ih =>
    intro e
    obtain ⟨h1, h2⟩ := ih e
    refine ⟨h1, fun y hy => ?_⟩
    rcases List.mem_cons.1 (hp.mem_iff.1 hy) with rfl | hy
    · exact hf
    · exact h2 y hy
/-- Behind Pop. -/
def popQ (q : Qm) (o : Option Item) (l : List Item) (n : Nat) : Qm := { q with ents := l, known := match o with | .none => q.known | .some x => delC q.known (pairI x), po := q.po + n }
set_option maxRecDepth 100000 in
theorem SaneQ.pop {q : Qm} (h : SaneQ J q) {o : Option Item} {l : List Item} {n : Nat} (hp : Pops J f q.ents o l n) : SaneQ J (popQ q o l n) := by
  have hl := hp.len
  have hc := h.cnt
  have ho := h.po
  refine ⟨fun x hx => h.ents x (hp.sub x hx), ?_, ?_, by simp only [popQ]; omega, by simp only [popQ]; omega, ?_, h.re⟩
  · intro x hx
    cases o with
    | none => exact h.known x hx
    | some y => exact h.known x (del_mem.1 hx).1
  · cases o with
    | none => exact h.ris
    | some y => exact ris_del h.ris _
  · have := h.len
    cases o with
    | none => exact this
    | some y =>
      have := del_len_le q.known (pairI y)
      simp only [popQ]; omega
end Go.Proofs.Ytbnekkcjkdghcaa
