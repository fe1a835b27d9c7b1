/- Counts of pairs as plain lists that rise. -/
import Derived.Test.YtbnekkcjkdghcaaPm
import Derived.Test.YtbnekkcjkdghcaaNums
namespace Go.Proofs.Ytbnekkcjkdghcaa

abbrev Cn := List ((Int × Int) × Int)
instance dpbDec (p q : Int × Int) : Decidable (pb p q) := by unfold pb; infer_instance
def RisC (L : Cn) : Prop := L.Pairwise fun x y => pb x.1 y.1
/-- Is the pair there? -/
def inC (L : Cn) (p : Int × Int) : Bool := L.any fun x => decide (x.1 = p)
/-- How often it is there. -/
def getC : Cn → Int × Int → Int
  | [], _ => 0
  | x :: r, p => if x.1 = p then x.2 else getC r p
def delC (L : Cn) (p : Int × Int) : Cn := L.filter fun x => decide (x.1 ≠ p)
def insC (p : Int × Int) (n : Int) : Cn → Cn
  | [] => [(p, n)]
  | x :: r => if pb x.1 p then x :: insC p n r else (p, n) :: delC (x :: r) p
def setC (L : Cn) (p : Int × Int) (n : Int) : Cn := if n = 0 then delC L p else insC p n L
set_option maxRecDepth 100000 in
theorem inC_iff {L : Cn} {p : Int × Int} : inC L p = true ↔ ∃ c, (p, c) ∈ L := by
  unfold inC
  rw [List.any_eq_true]
  constructor
  · rintro ⟨x, hx, h⟩
    have := of_decide_eq_true h
    subst this
    exact ⟨x.2, hx⟩
  · rintro ⟨c, h⟩
    exact ⟨_, h, by simp⟩
set_option maxRecDepth 100000 in
theorem inC_false {L : Cn} {p : Int × Int} (h : ∀ c, (p, c) ∉ L) : inC L p = false := by
  cases e : inC L p with
  | false => rfl
  | true => obtain ⟨c, hc⟩ := inC_iff.1 e; exact absurd hc (h c)
set_option maxRecDepth 100000 in
theorem get_none : ∀ {L : Cn} {p : Int × Int}, (∀ c, (p, c) ∉ L) → getC L p = 0
  | [], _, _ => rfl
  | x :: r, p, h => by
    rw [getC, if_neg, get_none fun c hc => h c (List.mem_cons_of_mem _ hc)]
    intro e
    subst e
    exact h x.2 List.mem_cons_self
set_option maxRecDepth 100000 in
theorem get_mem : ∀ {L : Cn} {p : Int × Int} {c : Int}, RisC L → (p, c) ∈ L → getC L p = c
  | x :: r, p, c, hR, h => by
    have hR' := List.pairwise_cons.1 hR
    rw [getC]
    rcases List.mem_cons.1 h with e | h
    · subst e; rw [if_pos rfl]
    · have := hR'.1 _ h
      rw [if_neg fun e => pb_irrefl p (by rw [e] at this; exact this), get_mem hR'.2 h]
set_option maxRecDepth 100000 in
/-- What is told of a pair is of the list, or 0. -/
theorem get_in {L : Cn} {p : Int × Int} (h : inC L p = true) : (p, getC L p) ∈ L := by
  induction L with
  | nil => simp [inC] at h
  | cons x r ih =>
    rw [getC]
    by_cases e : x.1 = p
    · rw [if_pos e]; subst e; exact List.mem_cons_self
    · rw [if_neg e]
      refine List.mem_cons_of_mem _ (ih ?_)
      simpa [inC, e] using h
set_option maxRecDepth 100000 in
theorem get_out {L : Cn} {p : Int × Int} (h : inC L p = false) : getC L p = 0 :=
  get_none fun c hc => by rw [inC_iff.2 ⟨c, hc⟩] at h; cases h
set_option maxRecDepth 100000 in
theorem del_mem {L : Cn} {p : Int × Int} {x : (Int × Int) × Int} : x ∈ delC L p ↔ x ∈ L ∧ x.1 ≠ p := by
  unfold delC; rw [List.mem_filter]; simp
set_option maxRecDepth 100000 in
theorem ins_mem {p : Int × Int} {n : Int} {x : (Int × Int) × Int} : ∀ {L : Cn}, x ∈ insC p n L ↔ x = (p, n) ∨ (x ∈ L ∧ x.1 ≠ p)
  | [] => by simp [insC]
  | y :: r => by
    rw [insC]
    split
    · rename_i h
      rw [List.mem_cons, ins_mem (L := r), List.mem_cons]
      constructor
      · rintro (rfl | h1 | ⟨h1, h2⟩)
        · exact .inr ⟨.inl rfl, fun e => pb_irrefl p (by rw [e] at h; exact h)⟩
        · exact .inl h1
        · exact .inr ⟨.inr h1, h2⟩
      · rintro (h1 | ⟨h1 | h1, h2⟩)
        · exact .inr (.inl h1)
        · exact .inl h1
        · exact .inr (.inr ⟨h1, h2⟩)
    · rw [List.mem_cons, del_mem]
set_option maxRecDepth 100000 in
theorem ris_del {L : Cn} (h : RisC L) (p : Int × Int) : RisC (delC L p) := List.Pairwise.filter _ h
set_option maxRecDepth 100000 in
theorem ris_ins {p : Int × Int} {n : Int} : ∀ {L : Cn}, RisC L → RisC (insC p n L)
  | [], _ => List.pairwise_singleton _ _
  | x :: r, h => by
    have h' := List.pairwise_cons.1 h
    rw [insC]
    split
    · rename_i hx
      refine List.pairwise_cons.2 ⟨fun y hy => ?_, ris_ins h'.2⟩
      rcases ins_mem.1 hy with rfl | ⟨hy, _⟩
      · exact hx
      · exact h'.1 y hy
    · rename_i hx
      refine List.pairwise_cons.2 ⟨fun y hy => ?_, ris_del h p⟩
      obtain ⟨hy, hne⟩ := del_mem.1 hy
      rcases List.mem_cons.1 hy with rfl | hy
      · exact (pb_total hne).resolve_left hx
      · have h1 := h'.1 y hy
        by_cases e : x.1 = p
        · rw [e] at h1; exact h1
        · exact pb_trans ((pb_total e).resolve_left hx) h1
set_option maxRecDepth 100000 in
theorem ris_set {L : Cn} (h : RisC L) (p : Int × Int) (n : Int) : RisC (setC L p n) := by
  unfold setC; split
  · exact ris_del h p
  · exact ris_ins h
set_option maxRecDepth 100000 in
theorem set_mem {L : Cn} {p : Int × Int} {n : Int} {x : (Int × Int) × Int} : x ∈ setC L p n ↔ (n ≠ 0 ∧ x = (p, n)) ∨ (x ∈ L ∧ x.1 ≠ p) := by
  unfold setC; split
  · rename_i h; rw [del_mem]; simp [h]
  · rename_i h; rw [ins_mem]; simp [h]
set_option maxRecDepth 100000 in
theorem get_ext {L M : Cn} {q : Int × Int} (hM : RisC M) (h : ∀ c, (q, c) ∈ L ↔ (q, c) ∈ M) : getC L q = getC M q := by
  cases e : inC L q with
  | true =>
    have h1 := get_in e
    exact (get_mem hM ((h _).1 h1)).symm
  | false =>
    rw [get_out e, get_none]
    intro c hc
    rw [inC_iff.2 ⟨c, (h c).2 hc⟩] at e; cases e
set_option maxRecDepth 100000 in
theorem get_del {L : Cn} (h : RisC L) (p q : Int × Int) : getC (delC L p) q = if q = p then 0 else getC L q := by
  split
  · rename_i e
    subst e
    exact get_none fun c hc => (del_mem.1 hc).2 rfl
  · rename_i e
    exact get_ext h fun c => by rw [del_mem]; simp [e]
set_option maxRecDepth 100000 in
theorem get_ins {L : Cn} (h : RisC L) (p q : Int × Int) (n : Int) : getC (insC p n L) q = if q = p then n else getC L q := by
  split
  · rename_i e
    subst e
    exact get_mem (ris_ins h) (ins_mem.2 (.inl rfl))
  · rename_i e
    exact get_ext h fun c => by rw [ins_mem]; simp [e]
set_option maxRecDepth 100000 in
theorem get_set {L : Cn} (h : RisC L) (p q : Int × Int) (n : Int) : getC (setC L p n) q = if q = p then n else getC L q := by
  unfold setC; split
  · rename_i e; rw [get_del h, e]
  · exact get_ins h p q n
set_option maxRecDepth 100000 in
theorem in_ext {L M : Cn} {q : Int × Int} (h : ∀ c, (q, c) ∈ L ↔ (q, c) ∈ M) : inC L q = inC M q := by
  rw [Bool.eq_iff_iff, inC_iff, inC_iff]
  exact ⟨fun ⟨c, hc⟩ => ⟨c, (h c).1 hc⟩, fun ⟨c, hc⟩ => ⟨c, (h c).2 hc⟩⟩
set_option maxRecDepth 100000 in
theorem in_del (L : Cn) (p q : Int × Int) : inC (delC L p) q = if q = p then false else inC L q := by
  split
  · rename_i e; subst e; exact inC_false fun c hc => (del_mem.1 hc).2 rfl
  · rename_i e; exact in_ext fun c => by rw [del_mem]; simp [e]
set_option maxRecDepth 100000 in
theorem in_ins (L : Cn) (p q : Int × Int) (n : Int) : inC (insC p n L) q = if q = p then true else inC L q := by
  split
  · rename_i e; subst e; exact inC_iff.2 ⟨n, ins_mem.2 (.inl rfl)⟩
  · rename_i e; exact in_ext fun c => by rw [ins_mem]; simp [e]
set_option maxRecDepth 100000 in
theorem del_same {L : Cn} {p : Int × Int} (h : ∀ x ∈ L, x.1 ≠ p) : delC L p = L := List.filter_eq_self.2 fun x hx => by simp [h x hx]
set_option maxRecDepth 100000 in
theorem len_del : ∀ {L : Cn}, RisC L → ∀ p, (delC L p).length + (if inC L p then 1 else 0) = L.length
  | [], _, p => by simp [delC, inC]
  | x :: r, h, p => by
    have h' := List.pairwise_cons.1 h
    have ih := len_del h'.2 p
    by_cases e : x.1 = p
    · have e1 : delC (x :: r) p = r := by
        have : delC (x :: r) p = delC r p := by unfold delC; rw [List.filter_cons_of_neg (by simp [e])]
        rw [this, del_same]
        intro y hy e2
        have := h'.1 y hy
        rw [e, e2] at this
        exact pb_irrefl p this
      have e2 : inC (x :: r) p = true := by simp [inC, e]
      rw [e1, e2]; simp
    · have e1 : delC (x :: r) p = x :: delC r p := by unfold delC; rw [List.filter_cons_of_pos (by simp [e])]
      have e2 : inC (x :: r) p = inC r p := by simp [inC, e]
      rw [e1, e2, List.length_cons, List.length_cons]; omega
set_option maxRecDepth 100000 in
theorem len_ins {p : Int × Int} {n : Int} : ∀ {L : Cn}, RisC L → (insC p n L).length = if inC L p then L.length else L.length + 1
  | [], _ => by simp [insC, inC]
  | x :: r, h => by
    have h' := List.pairwise_cons.1 h
    rw [insC]
    split
    · rename_i hx
      have e : x.1 ≠ p := fun e => pb_irrefl p (by rw [e] at hx; exact hx)
      have e2 : inC (x :: r) p = inC r p := by simp [inC, e]
      rw [List.length_cons, len_ins h'.2, e2]; simp; split <;> omega
    · have := len_del h p
      rw [List.length_cons]
      by_cases hh : inC (x :: r) p = true
      · rw [if_pos hh] at this ⊢; omega
      · rw [if_neg hh] at this ⊢; omega
set_option maxRecDepth 100000 in
/-- Two lists that rise and tell the same of every pair are one. -/
theorem ris_ext {L M : Cn} (hL : RisC L) (hM : RisC M) (h : ∀ x, x ∈ L ↔ x ∈ M) : L = M := rising_unique (fun _ _ h => pb_asymm h) h hL hM
set_option maxRecDepth 100000 in
theorem set_len {L : Cn} (h : RisC L) (p : Int × Int) (n : Int) : (setC L p n).length ≤ L.length + 1 := by
  unfold setC; split
  · have := len_del h p; omega
  · rw [len_ins h]; split <;> omega
end Go.Proofs.Ytbnekkcjkdghcaa
