/- A map of pairs that tells a list that rises. -/
import Derived.Test.YtbnekkcjkdghcaaCn
namespace Go.Proofs.Ytbnekkcjkdghcaa
open Go.RowKit Go.Maps

def FitsZ (a : Int) : Prop := -9223372036854775808 ≤ a ∧ a ≤ 9223372036854775807
/-- What is read of the map is the list. -/
structure ReadsC (D : DataW Unit) (L : Cn) : Prop where
  ris : RisC L
  fits : ∀ x ∈ L, FitsPr x.1 ∧ FitsZ x.2
  size : Maps.size D = L.length
  tell : ∀ p, FitsPr p → D.atKey (pk p) (.lit (.int .i64 0)) = .lit (.int .i64 (getC L p))
  has : ∀ p, FitsPr p → Maps.has D (pk p) = inC L p
set_option maxRecDepth 100000 in
theorem ReadsC.nil : ReadsC (.map []) [] := ⟨List.Pairwise.nil, fun x hx => by simp at hx, rfl, fun _ _ => rfl, fun _ _ => rfl⟩
set_option maxRecDepth 100000 in
theorem pk_ne {p q : Int × Int} (hp : FitsPr p) (hq : FitsPr q) (h : q ≠ p) : pk q ≠ pk p := fun e => h (pk_inj hq hp e)
set_option maxRecDepth 100000 in
theorem ReadsC.put {D : DataW Unit} {L : Cn} (h : ReadsC D L) (hT : Tidy D) (hM : IsMap D) {p : Int × Int} (hp : FitsPr p) {n : Int} (hn : FitsZ n) : ReadsC (D.put (pk p) (.lit (.int .i64 n))) (insC p n L) := by
  refine ⟨ris_ins h.ris, fun x hx => ?_, ?_, fun q hq => ?_, fun q hq => ?_⟩
  · rcases ins_mem.1 hx with rfl | ⟨hx, _⟩
    · exact ⟨hp, hn⟩
    · exact h.fits x hx
  · rw [size_put hT, h.has p hp, len_ins h.ris, h.size]
  · rw [get_ins h.ris]
    by_cases e : q = p
    · subst e; rw [if_pos rfl, atKey_put_same hM (pk_key _)]
    · rw [if_neg e, atKey_put_other (pk_ne hp hq e)]; exact h.tell q hq
  · rw [in_ins]
    by_cases e : q = p
    · subst e; rw [if_pos rfl, has_put_same hM (pk_key _)]
    · rw [if_neg e, has_put_other (pk_ne hp hq e)]; exact h.has q hq
set_option maxRecDepth 100000 in
theorem ReadsC.del {D : DataW Unit} {L : Cn} (h : ReadsC D L) (hT : Tidy D) {p : Int × Int} (hp : FitsPr p) : ReadsC (D.del (pk p)) (delC L p) := by
  refine ⟨ris_del h.ris p, fun x hx => h.fits x (del_mem.1 hx).1, ?_, fun q hq => ?_, fun q hq => ?_⟩
  · have h1 := size_del (k := pk p) hT
    have h2 := len_del h.ris p
    rw [h.has p hp, h.size] at h1
    omega
  · rw [get_del h.ris]
    by_cases e : q = p
    · subst e; rw [if_pos rfl, atKey_del_same]
    · rw [if_neg e, atKey_del_other (pk_ne hp hq e)]; exact h.tell q hq
  · rw [in_del]
    by_cases e : q = p
    · subst e; rw [if_pos rfl, has_del_same]
    · rw [if_neg e, has_del_other (pk_ne hp hq e)]; exact h.has q hq
/-- Block b is a map that tells L. -/
def CMap (w : World) (b : Nat) (L : Cn) : Prop := ∃ D : DataW Unit, w.ownsMap Try.prog 41 (plainElem Try.prog 3) b L.length D ∧ ReadsC D L
set_option maxRecDepth 100000 in
theorem ctight {w : World} {b n : Nat} {D : DataW Unit} {L : Cn} (h : w.ownsMap Try.prog 41 (plainElem Try.prog 3) b n D) (hr : ReadsC D L) : CMap w b L := by
  refine ⟨D, ?_, hr⟩
  obtain ⟨es, clock, hb, F, hs, rfl⟩ := h
  refine ⟨es, clock, hb, F, ?_, rfl⟩
  rw [← hr.size]
  simp [Maps.size, length_sorted]
set_option maxRecDepth 100000 in
theorem CMap.kept {w w' : World} {b : Nat} {L : Cn} (h : CMap w b L) (hk : w'.heap[b]? = w.heap[b]?) : CMap w' b L := by
  obtain ⟨D, ⟨es, clock, hb, rest⟩, h1⟩ := h
  exact ⟨D, ⟨es, clock, hk.trans hb, rest⟩, h1⟩
set_option maxRecDepth 100000 in
theorem CMap.lt {w : World} {b : Nat} {L : Cn} (h : CMap w b L) : b < w.heap.size := by
  obtain ⟨D, h0, _⟩ := h
  exact World.ownsMap.lt h0
set_option maxRecDepth 100000 in
theorem CMap.block {w : World} {b : Nat} {L : Cn} (h : CMap w b L) : ∃ es clock, w.heap[b]? = some (.map es clock) := by
  obtain ⟨D, ⟨es, clock, hb, _⟩, _⟩ := h
  exact ⟨es, clock, hb⟩
set_option maxRecDepth 100000 in
theorem CMap.ris {w : World} {b : Nat} {L : Cn} (h : CMap w b L) : RisC L := by obtain ⟨D, _, h1⟩ := h; exact h1.ris
set_option maxRecDepth 100000 in
theorem CMap.fits {w : World} {b : Nat} {L : Cn} (h : CMap w b L) : ∀ x ∈ L, FitsPr x.1 ∧ FitsZ x.2 := by obtain ⟨D, _, h1⟩ := h; exact h1.fits
set_option maxRecDepth 100000 in
theorem cmap_made (w : World) : CMap (w.alloc (.map #[] 0)) w.heap.size [] := ⟨.map [], World.ownsMap_made w Try.prog 41 _, ReadsC.nil⟩
def mapC (w : World) (m : Option Nat) (L : Cn) : Prop :=
  match m with
  | none => L = []
  | some b => CMap w b L
set_option maxRecDepth 100000 in
theorem mapC.kept {w w' : World} {m : Option Nat} {L : Cn} (h : mapC w m L) (hk : ∀ b, m = some b → w'.heap[b]? = w.heap[b]?) : mapC w' m L := by
  cases m with
  | none => exact h
  | some b => exact CMap.kept h (hk b rfl)
set_option maxRecDepth 100000 in
theorem mapC.ris {w : World} {m : Option Nat} {L : Cn} (h : mapC w m L) : RisC L := by
  cases m with
  | none => have e : L = [] := h; subst e; exact List.Pairwise.nil
  | some b => exact CMap.ris h
set_option maxRecDepth 100000 in
theorem hz3 : plainElem (H := Unit) Try.prog 3 (.int .i64 0) = some (.lit (.int .i64 0), []) := plainElem_int Try.underlying3 (by decide)
set_option maxRecDepth 100000 in
theorem look_c {w : World} {m : Option Nat} {L : Cn} (h : mapC w m L) {p : Int × Int} (hp : FitsPr p) : (Instr.lookup 64 (.map m) (pv p) false).run Try.prog w = .ok (.int .i64 (getC L p)) w := by
  cases m with
  | none =>
    have e : L = [] := h
    subst e
    exact look_nil false lawP Try.underlying64 (pzero3 w) (key_pair hp)
  | some b =>
    obtain ⟨D, ho, hr⟩ := h
    obtain ⟨c, hrun, hat, _⟩ := World.ownsMap.lookup_int ho lawP Try.underlying64 Try.underlying3 (pzero3 w) (key_pair hp)
    rw [hr.tell p hp] at hat
    simp only [DataW.lit.injEq, Lit.int.injEq, true_and] at hat
    rw [hrun, hat]
set_option maxRecDepth 100000 in
theorem look2_c {w : World} {b : Nat} {L : Cn} (h : CMap w b L) {p : Int × Int} (hp : FitsPr p) : (Instr.lookup 64 (.map (some b)) (pv p) true).run Try.prog w = .ok (.tuple #[.int .i64 (getC L p), .bool (inC L p)]) w := by
  obtain ⟨D, ho, hr⟩ := h
  obtain ⟨v, ps, hrun, hv⟩ := World.ownsMap.look_ok ho lawP Try.underlying64 (pzero3 w) hz3 (key_pair hp)
  obtain ⟨c, rfl, hz, _⟩ := plainElem_int_inv Try.underlying3 hv
  have hat : D.atKey (pk p) (.lit (.int .i64 0)) = .lit (.int .i64 c) := congrArg Prod.fst hz
  rw [hr.tell p hp] at hat
  simp only [DataW.lit.injEq, Lit.int.injEq, true_and] at hat
  rw [hrun, hat, hr.has p hp]
set_option maxRecDepth 100000 in
theorem len_c {w : World} {m : Option Nat} {L : Cn} (h : mapC w m L) (ty : TypeId) : (Builtin.len_ #[64] ty #[.map m]).run Try.prog w = .ok (.int .i64 (L.length : Int)) w := by
  cases m with
  | none =>
    have e : L = [] := h
    subst e
    exact len_nil Try.underlying64 ty
  | some b =>
    obtain ⟨D, ho, hr⟩ := h
    rw [World.ownsMap.len ho Try.underlying64 ty, hr.size]
set_option maxRecDepth 100000 in
theorem put_c {w : World} {b : Nat} {L : Cn} (h : CMap w b L) {p : Int × Int} (hp : FitsPr p) {n : Int} (hn : FitsZ n) (hl : L.length ≤ 1048576) : ∃ w', (Instr.mapUpdate 64 (.map (some b)) (pv p) (.int .i64 n)).run Try.prog w = .ok () w' ∧ CMap w' b (insC p n L) ∧ w.mapTurned w' b := by
  obtain ⟨D, ho, hr⟩ := h
  obtain ⟨w', h1, h2, h3⟩ := ho.store lawP Try.underlying64 (by unfold maxLen; omega) (key_pair hp) (plainElem_int (H := Unit) Try.underlying3 (wfI hn))
  exact ⟨w', h1, ctight h2 (hr.put (ho.tidy lawP) ho.isMap hp hn), h3⟩
set_option maxRecDepth 100000 in
theorem drop_c {w : World} {m : Option Nat} {L : Cn} (h : mapC w m L) {p : Int × Int} (hp : FitsPr p) : ∃ w', (∀ ty, (Builtin.delete_ #[64, 41] ty #[.map m, pv p]).run Try.prog w = .ok (.tuple #[]) w') ∧ mapC w' m (delC L p) ∧ w.grownBy w' m := by
  cases m with
  | none =>
    have e : L = [] := h
    subst e
    exact ⟨w, fun ty => drop_nil lawP Try.underlying64 (key_pair hp) ty, rfl, ⟨rfl, rfl, rfl, Nat.le_refl _, fun _ _ _ => rfl⟩⟩
  | some b =>
    obtain ⟨D, ho, hr⟩ := h
    obtain ⟨w', r1, r2, r3⟩ := ho.drop lawP Try.underlying64 (key_pair hp) 0
    exact ⟨w', fun ty => by rw [← r1]; rfl, ctight r2 (hr.del (ho.tidy lawP) hp), r3.grown⟩
set_option maxRecDepth 100000 in
theorem deqMap_none (w : World) : (binOp .eql 64 (.map none) (.map none)).run Try.prog w = .ok (.bool true) w := by kernel_rfl
set_option maxRecDepth 100000 in
theorem deqMap_some (m : Nat) (w : World) : (binOp .eql 64 (.map (some m)) (.map none)).run Try.prog w = .ok (.bool false) w := by kernel_rfl
end Go.Proofs.Ytbnekkcjkdghcaa
