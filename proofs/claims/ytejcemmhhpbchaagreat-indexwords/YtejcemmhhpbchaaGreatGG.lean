/- Texts in one: Cn, CMap. -/
import Derived.Test.YtejcemmhhpbchaaGreatPm
import Derived.Test.YtejcemmhhpbchaaGreatNums
/- Counts of pairs as plain lists that rise. -/
namespace Go.Proofs.YtejcemmhhpbchaaGreat

abbrev Cn := List ((Int × Int) × Int)
instance dpbDec (p q : Int × Int) : Decidable (pb p q) := by unfold pb; infer_instance
def RisC (L : Cn) : Prop := L.Pairwise fun x y => pb x.1 y.1
/-- Is the pair there? -/
def inC (L : Cn) (p : Int × Int) : Bool := L.any fun x => decide (x.1 = p)
/-- How often it is there. -/
def getC : Cn → Int × Int → Int
  | [], _ => 0
  | x :: r, p => if x.1 = p then x.2 else getC r p
def delC (L : Cn) (p : Int × Int) : Cn := L.filter fun x => decide (x.1 ≠ p)
def insC (p : Int × Int) (n : Int) : Cn → Cn
  | [] => [(p, n)]
  | x :: r => if pb x.1 p then x :: insC p n r else (p, n) :: delC (x :: r) p
def setC (L : Cn) (p : Int × Int) (n : Int) : Cn := if n = 0 then delC L p else insC p n L
set_option maxRecDepth 100000 in
theorem inC_iff {L : Cn} {p : Int × Int} : inC L p = true ↔ ∃ c, (p, c) ∈ L := by
  unfold inC
  rw [List.any_eq_true]
  constructor
  · rintro ⟨x, hx, h⟩
    have := of_decide_eq_true h
    subst this
    exact ⟨x.2, hx⟩
  · rintro ⟨c, h⟩
    exact ⟨_, h, by simp⟩
set_option maxRecDepth 100000 in
theorem inC_false {L : Cn} {p : Int × Int} (h : ∀ c, (p, c) ∉ L) : inC L p = false := by
  cases e : inC L p with
  | false => rfl
  | true => obtain ⟨c, hc⟩ := inC_iff.1 e; exact absurd hc (h c)
set_option maxRecDepth 100000 in
theorem get_none : ∀ {L : Cn} {p : Int × Int}, (∀ c, (p, c) ∉ L) → getC L p = 0
  | [], _, _ => rfl
  | x :: r, p, h => by
    rw [getC, if_neg, get_none fun c hc => h c (List.mem_cons_of_mem _ hc)]
    intro e
    subst e
    exact h x.2 List.mem_cons_self
set_option maxRecDepth 100000 in
theorem get_mem : ∀ {L : Cn} {p : Int × Int} {c : Int}, RisC L → (p, c) ∈ L → getC L p = c
  | x :: r, p, c, hR, h => by
    have hR' := List.pairwise_cons.1 hR
    rw [getC]
    rcases List.mem_cons.1 h with e | h
    · subst e; rw [if_pos rfl]
    · have := hR'.1 _ h
      rw [if_neg fun e => pb_irrefl p (by rw [e] at this; exact this), get_mem hR'.2 h]
set_option maxRecDepth 100000 in
/-- What is told of a pair is of the list, or 0. -/
theorem get_in {L : Cn} {p : Int × Int} (h : inC L p = true) : (p, getC L p) ∈ L := by
  induction L with
  | nil => simp [inC] at h
  | cons x r ih =>
    rw [getC]
    by_cases e : x.1 = p
    · rw [if_pos e]; subst e; exact List.mem_cons_self
    · rw [if_neg e]
      refine List.mem_cons_of_mem _ (ih ?_)
      simpa [inC, e] using h
set_option maxRecDepth 100000 in
theorem get_out {L : Cn} {p : Int × Int} (h : inC L p = false) : getC L p = 0 :=
  get_none fun c hc => by rw [inC_iff.2 ⟨c, hc⟩] at h; cases h
set_option maxRecDepth 100000 in
theorem del_mem {L : Cn} {p : Int × Int} {x : (Int × Int) × Int} : x ∈ delC L p ↔ x ∈ L ∧ x.1 ≠ p := by
  unfold delC; rw [List.mem_filter]; simp
set_option maxRecDepth 100000 in
theorem ins_mem {p : Int × Int} {n : Int} {x : (Int × Int) × Int} : ∀ {L : Cn}, x ∈ insC p n L ↔ x = (p, n) ∨ (x ∈ L ∧ x.1 ≠ p)
  | [] => by simp [insC]
  | y :: r => by
    rw [insC]
    split
    · rename_i h
      rw [List.mem_cons, ins_mem (L := r), List.mem_cons]
      constructor
      · rintro (rfl | h1 | ⟨h1, h2⟩)
        · exact .inr ⟨.inl rfl, fun e => pb_irrefl p (by rw [e] at h; exact h)⟩
        · exact .inl h1
        · exact .inr ⟨.inr h1, h2⟩
      · rintro (h1 | ⟨h1 | h1, h2⟩)
        · exact .inr (.inl h1)
        · exact .inl h1
        · exact .inr (.inr ⟨h1, h2⟩)
    · rw [List.mem_cons, del_mem]
set_option maxRecDepth 100000 in
theorem ris_del {L : Cn} (h : RisC L) (p : Int × Int) : RisC (delC L p) := List.Pairwise.filter _ h
set_option maxRecDepth 100000 in
theorem ris_ins {p : Int × Int} {n : Int} : ∀ {L : Cn}, RisC L → RisC (insC p n L)
  | [], _ => List.pairwise_singleton _ _
  | x :: r, h => by
    have h' := List.pairwise_cons.1 h
    rw [insC]
    split
    · rename_i hx
      refine List.pairwise_cons.2 ⟨fun y hy => ?_, ris_ins h'.2⟩
      rcases ins_mem.1 hy with rfl | ⟨hy, _⟩
      · exact hx
      · exact h'.1 y hy
    · rename_i hx
      refine List.pairwise_cons.2 ⟨fun y hy => ?_, ris_del h p⟩
      obtain ⟨hy, hne⟩ := del_mem.1 hy
      rcases List.mem_cons.1 hy with rfl | hy
      · exact (pb_total hne).resolve_left hx
      · have h1 := h'.1 y hy
        by_cases e : x.1 = p
        · rw [e] at h1; exact h1
        · exact pb_trans ((pb_total e).resolve_left hx) h1
set_option maxRecDepth 100000 in
theorem ris_set {L : Cn} (h : RisC L) (p : Int × Int) (n : Int) : RisC (setC L p n) := by
  unfold setC; split
  · exact ris_del h p
  · exact ris_ins h
set_option maxRecDepth 100000 in
theorem set_mem {L : Cn} {p : Int × Int} {n : Int} {x : (Int × Int) × Int} : x ∈ setC L p n ↔ (n ≠ 0 ∧ x = (p, n)) ∨ (x ∈ L ∧ x.1 ≠ p) := by
  unfold setC; split
  · rename_i h; rw [del_mem]; simp [h]
  · rename_i h; rw [ins_mem]; simp [h]
set_option maxRecDepth 100000 in
theorem get_ext {L M : Cn} {q : Int × Int} (hM : RisC M) (h : ∀ c, (q, c) ∈ L ↔ (q, c) ∈ M) : getC L q = getC M q := by
  cases e : inC L q with
  | true =>
    have h1 := get_in e
    exact (get_mem hM ((h _).1 h1)).symm
  | false =>
    rw [get_out e, get_none]
    intro c hc
    rw [inC_iff.2 ⟨c, (h c).2 hc⟩] at e; cases e
set_option maxRecDepth 100000 in
theorem get_del {L : Cn} (h : RisC L) (p q : Int × Int) : getC (delC L p) q = if q = p then 0 else getC L q := by
  split
  · rename_i e
    subst e
    exact get_none fun c hc => (del_mem.1 hc).2 rfl
  · rename_i e
    exact get_ext h fun c => by rw [del_mem]; simp [e]
set_option maxRecDepth 100000 in
theorem get_ins {L : Cn} (h : RisC L) (p q : Int × Int) (n : Int) : getC (insC p n L) q = if q = p then n else getC L q := by
  split
  · rename_i e
    subst e
    exact get_mem (ris_ins h) (ins_mem.2 (.inl rfl))
  · rename_i e
    exact get_ext h fun c => by rw [ins_mem]; simp [e]
set_option maxRecDepth 100000 in
theorem get_set {L : Cn} (h : RisC L) (p q : Int × Int) (n : Int) : getC (setC L p n) q = if q = p then n else getC L q := by
  unfold setC; split
  · rename_i e; rw [get_del h, e]
  · exact get_ins h p q n
set_option maxRecDepth 100000 in
theorem in_ext {L M : Cn} {q : Int × Int} (h : ∀ c, (q, c) ∈ L ↔ (q, c) ∈ M) : inC L q = inC M q := by
  rw [Bool.eq_iff_iff, inC_iff, inC_iff]
  exact ⟨fun ⟨c, hc⟩ => ⟨c, (h c).1 hc⟩, fun ⟨c, hc⟩ => ⟨c, (h c).2 hc⟩⟩
set_option maxRecDepth 100000 in
theorem in_del (L : Cn) (p q : Int × Int) : inC (delC L p) q = if q = p then false else inC L q := by
  split
  · rename_i e; subst e; exact inC_false fun c hc => (del_mem.1 hc).2 rfl
  · rename_i e; exact in_ext fun c => by rw [del_mem]; simp [e]
set_option maxRecDepth 100000 in
theorem in_ins (L : Cn) (p q : Int × Int) (n : Int) : inC (insC p n L) q = if q = p then true else inC L q := by
  split
  · rename_i e; subst e; exact inC_iff.2 ⟨n, ins_mem.2 (.inl rfl)⟩
  · rename_i e; exact in_ext fun c => by rw [ins_mem]; simp [e]
set_option maxRecDepth 100000 in
theorem del_same {L : Cn} {p : Int × Int} (h : ∀ x ∈ L, x.1 ≠ p) : delC L p = L := List.filter_eq_self.2 fun x hx => by simp [h x hx]
set_option maxRecDepth 100000 in
theorem len_del : ∀ {L : Cn}, RisC L → ∀ p, (delC L p).length + (if inC L p then 1 else 0) = L.length
  | [], _, p => by simp [delC, inC]
  | x :: r, h, p => by
    have h' := List.pairwise_cons.1 h
    have ih := len_del h'.2 p
    by_cases e : x.1 = p
    · have e1 : delC (x :: r) p = r := by
        have : delC (x :: r) p = delC r p := by unfold delC; rw [List.filter_cons_of_neg (by simp [e])]
        rw [this, del_same]
        intro y hy e2
        have := h'.1 y hy
        rw [e, e2] at this
        exact pb_irrefl p this
      have e2 : inC (x :: r) p = true := by simp [inC, e]
      rw [e1, e2]; simp
    · have e1 : delC (x :: r) p = x :: delC r p := by unfold delC; rw [List.filter_cons_of_pos (by simp [e])]
      have e2 : inC (x :: r) p = inC r p := by simp [inC, e]
      rw [e1, e2, List.length_cons, List.length_cons]; omega
set_option maxRecDepth 100000 in
theorem len_ins {p : Int × Int} {n : Int} : ∀ {L : Cn}, RisC L → (insC p n L).length = if inC L p then L.length else L.length + 1
  | [], _ => by simp [insC, inC]
  | x :: r, h => by
    have h' := List.pairwise_cons.1 h
    rw [insC]
    split
    · rename_i hx
      have e : x.1 ≠ p := fun e => pb_irrefl p (by rw [e] at hx; exact hx)
      have e2 : inC (x :: r) p = inC r p := by simp [inC, e]
      rw [List.length_cons, len_ins h'.2, e2]; simp; split <;> omega
    · have := len_del h p
      rw [List.length_cons]
      by_cases hh : inC (x :: r) p = true
      · rw [if_pos hh] at this ⊢; omega
      · rw [if_neg hh] at this ⊢; omega
set_option maxRecDepth 100000 in
/-- Two lists that rise and tell the same of every pair are one. -/
theorem ris_ext {L M : Cn} (hL : RisC L) (hM : RisC M) (h : ∀ x, x ∈ L ↔ x ∈ M) : L = M := rising_unique (fun _ _ h => pb_asymm h) h hL hM
set_option maxRecDepth 100000 in
theorem set_len {L : Cn} (h : RisC L) (p : Int × Int) (n : Int) : (setC L p n).length ≤ L.length + 1 := by
  unfold setC; split
  · have := len_del h p; omega
  · rw [len_ins h]; split <;> omega
end Go.Proofs.YtejcemmhhpbchaaGreat
/- A map of pairs that tells a list that rises. -/
namespace Go.Proofs.YtejcemmhhpbchaaGreat
open Go.RowKit Go.Maps

def FitsZ (a : Int) : Prop := -9223372036854775808 ≤ a ∧ a ≤ 9223372036854775807
/-- What is read of the map is the list. -/
structure ReadsC (D : DataW Unit) (L : Cn) : Prop where
  ris : RisC L
  fits : ∀ x ∈ L, FitsPr x.1 ∧ FitsZ x.2
  size : Maps.size D = L.length
  tell : ∀ p, FitsPr p → D.atKey (pk p) (.lit (.int .i64 0)) = .lit (.int .i64 (getC L p))
  has : ∀ p, FitsPr p → Maps.has D (pk p) = inC L p
set_option maxRecDepth 100000 in
theorem ReadsC.nil : ReadsC (.map []) [] := ⟨List.Pairwise.nil, fun x hx => by simp at hx, rfl, fun _ _ => rfl, fun _ _ => rfl⟩
set_option maxRecDepth 100000 in
theorem pk_ne {p q : Int × Int} (hp : FitsPr p) (hq : FitsPr q) (h : q ≠ p) : pk q ≠ pk p := fun e => h (pk_inj hq hp e)
set_option maxRecDepth 100000 in
theorem ReadsC.put {D : DataW Unit} {L : Cn} (h : ReadsC D L) (hT : Tidy D) (hM : IsMap D) {p : Int × Int} (hp : FitsPr p) {n : Int} (hn : FitsZ n) : ReadsC (D.put (pk p) (.lit (.int .i64 n))) (insC p n L) := by
  refine ⟨ris_ins h.ris, fun x hx => ?_, ?_, fun q hq => ?_, fun q hq => ?_⟩
  · rcases ins_mem.1 hx with rfl | ⟨hx, _⟩
    · exact ⟨hp, hn⟩
    · exact h.fits x hx
  · rw [size_put hT, h.has p hp, len_ins h.ris, h.size]
  · rw [get_ins h.ris]
    by_cases e : q = p
    · subst e; rw [if_pos rfl, atKey_put_same hM (pk_key _)]
    · rw [if_neg e, atKey_put_other (pk_ne hp hq e)]; exact h.tell q hq
  · rw [in_ins]
    by_cases e : q = p
    · subst e; rw [if_pos rfl, has_put_same hM (pk_key _)]
    · rw [if_neg e, has_put_other (pk_ne hp hq e)]; exact h.has q hq
set_option maxRecDepth 100000 in
theorem ReadsC.del {D : DataW Unit} {L : Cn} (h : ReadsC D L) (hT : Tidy D) {p : Int × Int} (hp : FitsPr p) : ReadsC (D.del (pk p)) (delC L p) := by
  refine ⟨ris_del h.ris p, fun x hx => h.fits x (del_mem.1 hx).1, ?_, fun q hq => ?_, fun q hq => ?_⟩
  · have h1 := size_del (k := pk p) hT
    have h2 := len_del h.ris p
    rw [h.has p hp, h.size] at h1
    omega
  · rw [get_del h.ris]
    by_cases e : q = p
    · subst e; rw [if_pos rfl, atKey_del_same]
    · rw [if_neg e, atKey_del_other (pk_ne hp hq e)]; exact h.tell q hq
  · rw [in_del]
    by_cases e : q = p
    · subst e; rw [if_pos rfl, has_del_same]
    · rw [if_neg e, has_del_other (pk_ne hp hq e)]; exact h.has q hq
/-- Block b is a map that tells L. -/
def CMap (w : World) (b : Nat) (L : Cn) : Prop := ∃ D : DataW Unit, w.ownsMap Tryz.prog 37 (plainElem Tryz.prog 3) b L.length D ∧ ReadsC D L
set_option maxRecDepth 100000 in
theorem ctight {w : World} {b n : Nat} {D : DataW Unit} {L : Cn} (h : w.ownsMap Tryz.prog 37 (plainElem Tryz.prog 3) b n D) (hr : ReadsC D L) : CMap w b L := by
  refine ⟨D, ?_, hr⟩
  obtain ⟨es, clock, hb, F, hs, rfl⟩ := h
  refine ⟨es, clock, hb, F, ?_, rfl⟩
  rw [← hr.size]
  simp [Maps.size, length_sorted]
set_option maxRecDepth 100000 in
theorem CMap.kept {w w' : World} {b : Nat} {L : Cn} (h : CMap w b L) (hk : w'.heap[b]? = w.heap[b]?) : CMap w' b L := by
  obtain ⟨D, ⟨es, clock, hb, rest⟩, h1⟩ := h
  exact ⟨D, ⟨es, clock, hk.trans hb, rest⟩, h1⟩
set_option maxRecDepth 100000 in
theorem CMap.lt {w : World} {b : Nat} {L : Cn} (h : CMap w b L) : b < w.heap.size := by
  obtain ⟨D, h0, _⟩ := h
  exact World.ownsMap.lt h0
set_option maxRecDepth 100000 in
theorem CMap.block {w : World} {b : Nat} {L : Cn} (h : CMap w b L) : ∃ es clock, w.heap[b]? = some (.map es clock) := by
  obtain ⟨D, ⟨es, clock, hb, _⟩, _⟩ := h
  exact ⟨es, clock, hb⟩
set_option maxRecDepth 100000 in
theorem CMap.ris {w : World} {b : Nat} {L : Cn} (h : CMap w b L) : RisC L := by obtain ⟨D, _, h1⟩ := h; exact h1.ris
set_option maxRecDepth 100000 in
theorem CMap.fits {w : World} {b : Nat} {L : Cn} (h : CMap w b L) : ∀ x ∈ L, FitsPr x.1 ∧ FitsZ x.2 := by obtain ⟨D, _, h1⟩ := h; exact h1.fits
set_option maxRecDepth 100000 in
theorem cmap_made (w : World) : CMap (w.alloc (.map #[] 0)) w.heap.size [] := ⟨.map [], World.ownsMap_made w Tryz.prog 37 _, ReadsC.nil⟩
def mapC (w : World) (m : Option Nat) (L : Cn) : Prop :=
  match m with
  | none => L = []
  | some b => CMap w b L
set_option maxRecDepth 100000 in
theorem mapC.kept {w w' : World} {m : Option Nat} {L : Cn} (h : mapC w m L) (hk : ∀ b, m = some b → w'.heap[b]? = w.heap[b]?) : mapC w' m L := by
  cases m with
  | none => exact h
  | some b => exact CMap.kept h (hk b rfl)
set_option maxRecDepth 100000 in
theorem mapC.ris {w : World} {m : Option Nat} {L : Cn} (h : mapC w m L) : RisC L := by
  cases m with
  | none => have e : L = [] := h; subst e; exact List.Pairwise.nil
  | some b => exact CMap.ris h
set_option maxRecDepth 100000 in
theorem hz3 : plainElem (H := Unit) Tryz.prog 3 (.int .i64 0) = some (.lit (.int .i64 0), []) := plainElem_int Tryz.underlying3 (by decide)
set_option maxRecDepth 100000 in
theorem look_c {w : World} {m : Option Nat} {L : Cn} (h : mapC w m L) {p : Int × Int} (hp : FitsPr p) : (Instr.lookup 89 (.map m) (pv p) false).run Tryz.prog w = .ok (.int .i64 (getC L p)) w := by
  cases m with
  | none =>
    have e : L = [] := h
    subst e
    exact look_nil false lawP Tryz.underlying89 (pzero3 w) (key_pair hp)
  | some b =>
    obtain ⟨D, ho, hr⟩ := h
    obtain ⟨c, hrun, hat, _⟩ := World.ownsMap.lookup_int ho lawP Tryz.underlying89 Tryz.underlying3 (pzero3 w) (key_pair hp)
    rw [hr.tell p hp] at hat
    simp only [DataW.lit.injEq, Lit.int.injEq, true_and] at hat
    rw [hrun, hat]
set_option maxRecDepth 100000 in
theorem look2_c {w : World} {b : Nat} {L : Cn} (h : CMap w b L) {p : Int × Int} (hp : FitsPr p) : (Instr.lookup 89 (.map (some b)) (pv p) true).run Tryz.prog w = .ok (.tuple #[.int .i64 (getC L p), .bool (inC L p)]) w := by
  obtain ⟨D, ho, hr⟩ := h
  obtain ⟨v, ps, hrun, hv⟩ := World.ownsMap.look_ok ho lawP Tryz.underlying89 (pzero3 w) hz3 (key_pair hp)
  obtain ⟨c, rfl, hz, _⟩ := plainElem_int_inv Tryz.underlying3 hv
  have hat : D.atKey (pk p) (.lit (.int .i64 0)) = .lit (.int .i64 c) := congrArg Prod.fst hz
  rw [hr.tell p hp] at hat
  simp only [DataW.lit.injEq, Lit.int.injEq, true_and] at hat
  rw [hrun, hat, hr.has p hp]
set_option maxRecDepth 100000 in
theorem len_c {w : World} {m : Option Nat} {L : Cn} (h : mapC w m L) (ty : TypeId) : (Builtin.len_ #[89] ty #[.map m]).run Tryz.prog w = .ok (.int .i64 (L.length : Int)) w := by
  cases m with
  | none =>
    have e : L = [] := h
    subst e
    exact len_nil Tryz.underlying89 ty
  | some b =>
    obtain ⟨D, ho, hr⟩ := h
    rw [World.ownsMap.len ho Tryz.underlying89 ty, hr.size]
set_option maxRecDepth 100000 in
theorem put_c {w : World} {b : Nat} {L : Cn} (h : CMap w b L) {p : Int × Int} (hp : FitsPr p) {n : Int} (hn : FitsZ n) (hl : L.length ≤ 1048576) : ∃ w', (Instr.mapUpdate 89 (.map (some b)) (pv p) (.int .i64 n)).run Tryz.prog w = .ok () w' ∧ CMap w' b (insC p n L) ∧ w.mapTurned w' b := by
  obtain ⟨D, ho, hr⟩ := h
  obtain ⟨w', h1, h2, h3⟩ := ho.store lawP Tryz.underlying89 (by unfold maxLen; omega) (key_pair hp) (plainElem_int (H := Unit) Tryz.underlying3 (wfI hn))
  exact ⟨w', h1, ctight h2 (hr.put (ho.tidy lawP) ho.isMap hp hn), h3⟩
set_option maxRecDepth 100000 in
theorem drop_c {w : World} {m : Option Nat} {L : Cn} (h : mapC w m L) {p : Int × Int} (hp : FitsPr p) : ∃ w', (∀ ty, (Builtin.delete_ #[89, 37] ty #[.map m, pv p]).run Tryz.prog w = .ok (.tuple #[]) w') ∧ mapC w' m (delC L p) ∧ w.grownBy w' m := by
  cases m with
  | none =>
    have e : L = [] := h
    subst e
    exact ⟨w, fun ty => drop_nil lawP Tryz.underlying89 (key_pair hp) ty, rfl, ⟨rfl, rfl, rfl, Nat.le_refl _, fun _ _ _ => rfl⟩⟩
  | some b =>
    obtain ⟨D, ho, hr⟩ := h
    obtain ⟨w', r1, r2, r3⟩ := ho.drop lawP Tryz.underlying89 (key_pair hp) 0
    exact ⟨w', fun ty => by rw [← r1]; rfl, ctight r2 (hr.del (ho.tidy lawP) hp), r3.grown⟩
set_option maxRecDepth 100000 in
theorem deqMap_none (w : World) : (binOp .eql 89 (.map none) (.map none)).run Tryz.prog w = .ok (.bool true) w := by kernel_rfl
set_option maxRecDepth 100000 in
theorem deqMap_some (m : Nat) (w : World) : (binOp .eql 89 (.map (some m)) (.map none)).run Tryz.prog w = .ok (.bool false) w := by kernel_rfl
end Go.Proofs.YtejcemmhhpbchaaGreat
