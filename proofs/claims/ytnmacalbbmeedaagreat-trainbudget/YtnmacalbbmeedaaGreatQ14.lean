/- Texts in one: CMap, Mv, Cts. -/
import Derived.Test.YtnmacalbbmeedaaGreatQ13
import Derived.Test.YtnmacalbbmeedaaGreatQ09
import Derived.Lib.Hide
/- A map of pairs that tells a list that rises. -/
namespace Go.Proofs.YtnmacalbbmeedaaGreat
open Go.RowKit Go.Maps

def FitsZ (a : Int) : Prop := -9223372036854775808 ≤ a ∧ a ≤ 9223372036854775807
/-- What is read of the map is the list. -/
structure ReadsC (D : DataW Unit) (L : Cn) : Prop where
  ris : RisC L
  fits : ∀ x ∈ L, FitsPr x.1 ∧ FitsZ x.2
  size : Maps.size D = L.length
  tell : ∀ p, FitsPr p → D.atKey (pk p) (.lit (.int .i64 0)) = .lit (.int .i64 (getC L p))
  has : ∀ p, FitsPr p → Maps.has D (pk p) = inC L p
set_option maxRecDepth 100000 in
theorem ReadsC.nil : ReadsC (.map []) [] := ⟨List.Pairwise.nil, fun x hx => by simp at hx, rfl, fun _ _ => rfl, fun _ _ => rfl⟩
set_option maxRecDepth 100000 in
theorem pk_ne {p q : Int × Int} (hp : FitsPr p) (hq : FitsPr q) (h : q ≠ p) : pk q ≠ pk p := fun e => h (pk_inj hq hp e)
set_option maxRecDepth 100000 in
theorem ReadsC.put {D : DataW Unit} {L : Cn} (h : ReadsC D L) (hT : Tidy D) (hM : IsMap D) {p : Int × Int} (hp : FitsPr p) {n : Int} (hn : FitsZ n) : ReadsC (D.put (pk p) (.lit (.int .i64 n))) (insC p n L) := by
  refine ⟨ris_ins h.ris, fun x hx => ?_, ?_, fun q hq => ?_, fun q hq => ?_⟩
  · rcases ins_mem.1 hx with rfl | ⟨hx, _⟩
    · exact ⟨hp, hn⟩
    · exact h.fits x hx
  · rw [size_put hT, h.has p hp, len_ins h.ris, h.size]
  · rw [get_ins h.ris]
    by_cases e : q = p
    · subst e; rw [if_pos rfl, atKey_put_same hM (pk_key _)]
    · rw [if_neg e, atKey_put_other (pk_ne hp hq e)]; exact h.tell q hq
  · rw [in_ins]
    by_cases e : q = p
    · subst e; rw [if_pos rfl, has_put_same hM (pk_key _)]
    · rw [if_neg e, has_put_other (pk_ne hp hq e)]; exact h.has q hq
set_option maxRecDepth 100000 in
theorem ReadsC.del {D : DataW Unit} {L : Cn} (h : ReadsC D L) (hT : Tidy D) {p : Int × Int} (hp : FitsPr p) : ReadsC (D.del (pk p)) (delC L p) := by
  refine ⟨ris_del h.ris p, fun x hx => h.fits x (del_mem.1 hx).1, ?_, fun q hq => ?_, fun q hq => ?_⟩
  · have h1 := size_del (k := pk p) hT
    have h2 := len_del h.ris p
    rw [h.has p hp, h.size] at h1
    omega
  · rw [get_del h.ris]
    by_cases e : q = p
    · subst e; rw [if_pos rfl, atKey_del_same]
    · rw [if_neg e, atKey_del_other (pk_ne hp hq e)]; exact h.tell q hq
  · rw [in_del]
    by_cases e : q = p
    · subst e; rw [if_pos rfl, has_del_same]
    · rw [if_neg e, has_del_other (pk_ne hp hq e)]; exact h.has q hq
/-- Block b is a map that tells L. -/
def CMap (w : World) (b : Nat) (L : Cn) : Prop := ∃ D : DataW Unit, w.ownsMap Tryz.prog 77 (plainElem Tryz.prog 3) b L.length D ∧ ReadsC D L
set_option maxRecDepth 100000 in
theorem ctight {w : World} {b n : Nat} {D : DataW Unit} {L : Cn} (h : w.ownsMap Tryz.prog 77 (plainElem Tryz.prog 3) b n D) (hr : ReadsC D L) : CMap w b L := by
  refine ⟨D, ?_, hr⟩
  obtain ⟨es, clock, hb, F, hs, rfl⟩ := h
  refine ⟨es, clock, hb, F, ?_, rfl⟩
  rw [← hr.size]
  simp [Maps.size, length_sorted]
set_option maxRecDepth 100000 in
theorem CMap.kept {w w' : World} {b : Nat} {L : Cn} (h : CMap w b L) (hk : w'.heap[b]? = w.heap[b]?) : CMap w' b L := by
  obtain ⟨D, ⟨es, clock, hb, rest⟩, h1⟩ := h
  exact ⟨D, ⟨es, clock, hk.trans hb, rest⟩, h1⟩
set_option maxRecDepth 100000 in
theorem CMap.lt {w : World} {b : Nat} {L : Cn} (h : CMap w b L) : b < w.heap.size := by
  obtain ⟨D, h0, _⟩ := h
  exact World.ownsMap.lt h0
set_option maxRecDepth 100000 in
theorem CMap.block {w : World} {b : Nat} {L : Cn} (h : CMap w b L) : ∃ es clock, w.heap[b]? = some (.map es clock) := by
  obtain ⟨D, ⟨es, clock, hb, _⟩, _⟩ := h
  exact ⟨es, clock, hb⟩
set_option maxRecDepth 100000 in
theorem CMap.ris {w : World} {b : Nat} {L : Cn} (h : CMap w b L) : RisC L := by obtain ⟨D, _, h1⟩ := h; exact h1.ris
set_option maxRecDepth 100000 in
theorem CMap.fits {w : World} {b : Nat} {L : Cn} (h : CMap w b L) : ∀ x ∈ L, FitsPr x.1 ∧ FitsZ x.2 := by obtain ⟨D, _, h1⟩ := h; exact h1.fits
set_option maxRecDepth 100000 in
theorem cmap_made (w : World) : CMap (w.alloc (.map #[] 0)) w.heap.size [] := ⟨.map [], World.ownsMap_made w Tryz.prog 77 _, ReadsC.nil⟩
def mapC (w : World) (m : Option Nat) (L : Cn) : Prop :=
  match m with
  | none => L = []
  | some b => CMap w b L
set_option maxRecDepth 100000 in
theorem mapC.kept {w w' : World} {m : Option Nat} {L : Cn} (h : mapC w m L) (hk : ∀ b, m = some b → w'.heap[b]? = w.heap[b]?) : mapC w' m L := by
  cases m with
  | none => exact h
  | some b => exact CMap.kept h (hk b rfl)
set_option maxRecDepth 100000 in
theorem mapC.ris {w : World} {m : Option Nat} {L : Cn} (h : mapC w m L) : RisC L := by
  cases m with
  | none => have e : L = [] := h; subst e; exact List.Pairwise.nil
  | some b => exact CMap.ris h
set_option maxRecDepth 100000 in
theorem hz3 : plainElem (H := Unit) Tryz.prog 3 (.int .i64 0) = some (.lit (.int .i64 0), []) := plainElem_int Tryz.underlying3 (by decide)
set_option maxRecDepth 100000 in
theorem look_c {w : World} {m : Option Nat} {L : Cn} (h : mapC w m L) {p : Int × Int} (hp : FitsPr p) : (Instr.lookup 114 (.map m) (pv p) false).run Tryz.prog w = .ok (.int .i64 (getC L p)) w := by
  cases m with
  | none =>
    have e : L = [] := h
    subst e
    exact look_nil false lawP Tryz.underlying114 (pzero3 w) (key_pair hp)
  | some b =>
    obtain ⟨D, ho, hr⟩ := h
    obtain ⟨c, hrun, hat, _⟩ := World.ownsMap.lookup_int ho lawP Tryz.underlying114 Tryz.underlying3 (pzero3 w) (key_pair hp)
    rw [hr.tell p hp] at hat
    simp only [DataW.lit.injEq, Lit.int.injEq, true_and] at hat
    rw [hrun, hat]
set_option maxRecDepth 100000 in
theorem look2_c {w : World} {b : Nat} {L : Cn} (h : CMap w b L) {p : Int × Int} (hp : FitsPr p) : (Instr.lookup 114 (.map (some b)) (pv p) true).run Tryz.prog w = .ok (.tuple #[.int .i64 (getC L p), .bool (inC L p)]) w := by
  obtain ⟨D, ho, hr⟩ := h
  obtain ⟨v, ps, hrun, hv⟩ := World.ownsMap.look_ok ho lawP Tryz.underlying114 (pzero3 w) hz3 (key_pair hp)
  obtain ⟨c, rfl, hz, _⟩ := plainElem_int_inv Tryz.underlying3 hv
  have hat : D.atKey (pk p) (.lit (.int .i64 0)) = .lit (.int .i64 c) := congrArg Prod.fst hz
  rw [hr.tell p hp] at hat
  simp only [DataW.lit.injEq, Lit.int.injEq, true_and] at hat
  rw [hrun, hat, hr.has p hp]
set_option maxRecDepth 100000 in
theorem len_c {w : World} {m : Option Nat} {L : Cn} (h : mapC w m L) (ty : TypeId) : (Builtin.len_ #[114] ty #[.map m]).run Tryz.prog w = .ok (.int .i64 (L.length : Int)) w := by
  cases m with
  | none =>
    have e : L = [] := h
    subst e
    exact len_nil Tryz.underlying114 ty
  | some b =>
    obtain ⟨D, ho, hr⟩ := h
    rw [World.ownsMap.len ho Tryz.underlying114 ty, hr.size]
set_option maxRecDepth 100000 in
theorem put_c {w : World} {b : Nat} {L : Cn} (h : CMap w b L) {p : Int × Int} (hp : FitsPr p) {n : Int} (hn : FitsZ n) (hl : L.length ≤ 1048576) : ∃ w', (Instr.mapUpdate 114 (.map (some b)) (pv p) (.int .i64 n)).run Tryz.prog w = .ok () w' ∧ CMap w' b (insC p n L) ∧ w.mapTurned w' b := by
  obtain ⟨D, ho, hr⟩ := h
  obtain ⟨w', h1, h2, h3⟩ := ho.store lawP Tryz.underlying114 (by unfold maxLen; omega) (key_pair hp) (plainElem_int (H := Unit) Tryz.underlying3 (wfI hn))
  exact ⟨w', h1, ctight h2 (hr.put (ho.tidy lawP) ho.isMap hp hn), h3⟩
set_option maxRecDepth 100000 in
theorem drop_c {w : World} {m : Option Nat} {L : Cn} (h : mapC w m L) {p : Int × Int} (hp : FitsPr p) : ∃ w', (∀ ty, (Builtin.delete_ #[114, 77] ty #[.map m, pv p]).run Tryz.prog w = .ok (.tuple #[]) w') ∧ mapC w' m (delC L p) ∧ w.grownBy w' m := by
  cases m with
  | none =>
    have e : L = [] := h
    subst e
    exact ⟨w, fun ty => drop_nil lawP Tryz.underlying114 (key_pair hp) ty, rfl, ⟨rfl, rfl, rfl, Nat.le_refl _, fun _ _ _ => rfl⟩⟩
  | some b =>
    obtain ⟨D, ho, hr⟩ := h
    obtain ⟨w', r1, r2, r3⟩ := ho.drop lawP Tryz.underlying114 (key_pair hp) 0
    exact ⟨w', fun ty => by rw [← r1]; rfl, ctight r2 (hr.del (ho.tidy lawP) hp), r3.grown⟩
set_option maxRecDepth 100000 in
theorem deqMap_none (w : World) : (binOp .eql 114 (.map none) (.map none)).run Tryz.prog w = .ok (.bool true) w := by kernel_rfl
set_option maxRecDepth 100000 in
theorem deqMap_some (m : Nat) (w : World) : (binOp .eql 114 (.map (some m)) (.map none)).run Tryz.prog w = .ok (.bool false) w := by kernel_rfl
end Go.Proofs.YtnmacalbbmeedaaGreat
/- What becomes of a count. -/
namespace Go.Proofs.YtnmacalbbmeedaaGreat
open Go.RowKit

/-- The negative, within 64 bits. -/
def negW (b : Int) : Int := if b = -9223372036854775808 then b else -b
set_option maxRecDepth 100000 in
theorem negW_wrap {b : Int} (h : FitsZ b) : IntKind.i64.wrap (-b) = negW b := by
  unfold negW FitsZ at *
  rw [IntKind.wrap_i64]
  split <;> omega
set_option maxRecDepth 100000 in
theorem negW_fits {b : Int} (h : FitsZ b) : FitsZ (negW b) := by unfold negW FitsZ at *; split <;> omega
/-- A count by so much more, or less, so many times. -/
def movOf (c b t : Int) : Int × Bool :=
  if 0 ≤ b then (bif (mulOf b t).2 then addOf c (mulOf b t).1 else (0, false))
  else (bif (mulOf (negW b) t).2 then (if (mulOf (negW b) t).1 ≤ c then (c - (mulOf (negW b) t).1, true) else (0, false)) else (0, false))
set_option maxRecDepth 100000 in
theorem mov_in {c b t : Int} (hc : 0 ≤ c ∧ c ≤ 9223372036854775807) : 0 ≤ (movOf c b t).1 ∧ (movOf c b t).1 ≤ 9223372036854775807 := by
  have h1 := mulOf_in (negW b) t
  unfold movOf
  split
  · cases (mulOf b t).2
    · exact ⟨by simp, by simp⟩
    · exact addOf_in _ _
  · cases (mulOf (negW b) t).2
    · exact ⟨by simp, by simp⟩
    · simp only [cond_true]
      split
      · exact ⟨by simp only; omega, by simp only; omega⟩
      · exact ⟨by simp, by simp⟩
set_option maxRecDepth 100000 in
set_option maxHeartbeats 1000000 in
theorem moved_any (c b t : Int) (w : World) (hc : 0 ≤ c ∧ c ≤ 9223372036854775807) (hb : FitsZ b) (ht : FitsZ t) :
    Calls Tryz.prog 122 #[.int .i64 c, .int .i64 b, .int .i64 t] w fun e w' => e = .returned (.tuple #[.int .i64 (movOf c b t).1, .bool (movOf c b t).2]) ∧ w' = w := by
  unfold movOf
  by_cases h0 : 0 ≤ b
  · rw [if_pos h0]
    have cM := fun w => mul_any b t w hb.1 hb.2 ht.1 ht.2
    have hin := mulOf_in b t
    generalize mulOf b t = s at *
    obtain ⟨d, ok⟩ := s
    simp only at hin cM
    cases ok with
    | false =>
      simp only [cond_false]
      clear hin
      go_enter Tryz.func122, Tryz.ntmps122
      go_wp2_with (go_at_call 103; refine (cM _).mono ?_; rintro e w1 ⟨rfl, rfl⟩)
      go_ret2
      exact ⟨rfl, rfl⟩
    | true =>
      simp only [cond_true]
      have cA := fun w => add_any c d w (by omega) hc.2 (by omega) hin.2
      generalize addOf c d = u at *
      obtain ⟨u1, u2⟩ := u
      simp only at cA
      go_enter Tryz.func122, Tryz.ntmps122
      go_wp2_with (first | (go_at_call 103; refine (cM _).mono ?_; rintro e w1 ⟨rfl, rfl⟩) | (go_at_call 104; refine (cA _).mono ?_; rintro e w1 ⟨rfl, rfl⟩))
      go_ret2
      exact ⟨rfl, rfl⟩
  · rw [if_neg h0]
    have hw := negW_wrap hb
    have hn := negW_fits hb
    have cM := fun w => mul_any (negW b) t w hn.1 hn.2 ht.1 ht.2
    have hin := mulOf_in (negW b) t
    generalize negW b = nb at *
    generalize mulOf nb t = s at *
    obtain ⟨d, ok⟩ := s
    simp only at hin cM
    cases ok with
    | false =>
      simp only [cond_false]
      clear hin
      go_enter Tryz.func122, Tryz.ntmps122
      go_wp2_with (go_at_call 103; refine (cM _).mono ?_; rintro e w1 ⟨rfl, rfl⟩)
      go_ret2
      exact ⟨rfl, rfl⟩
    | true =>
      simp only [cond_true]
      by_cases hd : d ≤ c
      · rw [if_pos hd]
        have hd' : ¬ c < d := by omega
        go_enter Tryz.func122, Tryz.ntmps122
        go_wp2_with (go_at_call 103; refine (cM _).mono ?_; rintro e w1 ⟨rfl, rfl⟩)
        go_ret2
        exact ⟨rfl, rfl⟩
      · rw [if_neg hd]
        have hd' : c < d := by omega
        go_enter Tryz.func122, Tryz.ntmps122
        go_wp2_with (go_at_call 103; refine (cM _).mono ?_; rintro e w1 ⟨rfl, rfl⟩)
        go_ret2
        exact ⟨rfl, rfl⟩
end Go.Proofs.YtnmacalbbmeedaaGreat
/- A count: its memory, New, Get, Len, set. -/
namespace Go.Proofs.YtnmacalbbmeedaaGreat
open Go.RowKit Go.Maps

/-- The count in block K, whose map is m, has the pairs L. -/
def Cts (w : World) (K : Nat) (m : Option Nat) (L : Cn) : Prop := w.heap[K]? = some (.cells #[.map m] 134 (0, 0)) ∧ mapC w m L
/-- The blocks of a count. -/
def dmineC (K : Nat) (m : Option Nat) (k : Nat) : Prop := k = K ∨ some k = m
set_option maxRecDepth 100000 in
theorem Cts.lt {w : World} {K : Nat} {m : Option Nat} {L : Cn} (h : Cts w K m L) : K < w.heap.size := (Array.getElem?_eq_some_iff.1 h.1).1
set_option maxRecDepth 100000 in
theorem Cts.mlt {w : World} {K : Nat} {m : Option Nat} {L : Cn} (h : Cts w K m L) {k : Nat} (hk : dmineC K m k) : k < w.heap.size := by
  rcases hk with rfl | e
  · exact h.lt
  · subst e; exact CMap.lt h.2
set_option maxRecDepth 100000 in
theorem Cts.kept {w w' : World} {K : Nat} {m : Option Nat} {L : Cn} (h : Cts w K m L) (hk : ∀ k, k < w.heap.size → dmineC K m k → w'.heap[k]? = w.heap[k]?) : Cts w' K m L :=
  ⟨(hk K h.lt (.inl rfl)).trans h.1, h.2.kept fun b e => by subst e; exact hk b (CMap.lt h.2) (.inr rfl)⟩
set_option maxRecDepth 100000 in
theorem Cts.below {w w' : World} {K : Nat} {m : Option Nat} {L : Cn} (h : Cts w K m L) (hb : Below w.heap.size w w') : Cts w' K m L := h.kept fun k hk _ => hb.block k hk
set_option maxRecDepth 100000 in
theorem Cts.alloc {w : World} {K : Nat} {m : Option Nat} {L : Cn} (h : Cts w K m L) (o : Obj) : Cts (w.alloc o) K m L := h.below ((Below.refl _ w).alloc (Nat.le_refl _) o)
set_option maxRecDepth 100000 in
theorem Cts.drewN {w : World} {K : Nat} {m : Option Nat} {L : Cn} (h : Cts w K m L) (n : Nat) : Cts (w.drewN n) K m L := h.kept fun _ _ _ => rfl
set_option maxRecDepth 100000 in
theorem Cts.drew {w : World} {K : Nat} {m : Option Nat} {L : Cn} (h : Cts w K m L) : Cts w.drew K m L := h.kept fun _ _ _ => rfl
set_option maxRecDepth 100000 in
theorem Cts.cell {w : World} {K : Nat} {m : Option Nat} {L : Cn} (h : Cts w K m L) : w.cell? ⟨K, 0, none⟩ = some (.map m) ∧ w.frozen? ⟨K, 0, none⟩ = false :=
  ⟨by rw [cell_of_row w K 0 _ 134 (0, 0) h.1]; rfl, Lib.frozen_of_heap h.1 0⟩
set_option maxRecDepth 100000 in
theorem Cts.ris {w : World} {K : Nat} {m : Option Nat} {L : Cn} (h : Cts w K m L) : RisC L := h.2.ris
set_option maxRecDepth 100000 in
theorem Cts.ne {w : World} {K : Nat} {m : Option Nat} {L : Cn} (h : Cts w K m L) : some K ≠ m := by
  intro e
  subst e
  obtain ⟨es, clock, hb⟩ := CMap.block h.2
  have := h.1
  rw [hb] at this; cases this
set_option maxRecDepth 100000 in
theorem dnew_any (w : World) : Calls Tryz.prog 47 #[] w fun e w' => e = .returned (.pointer (some ⟨w.heap.size, 0, none⟩)) ∧ w' = w.alloc (.cells #[.map none] 134) := by
  go_enter Tryz.func47, Tryz.ntmps47
  go_wp2
  go_ret
  exact ⟨rfl, rfl⟩
set_option maxRecDepth 100000 in
theorem new_cts (w : World) : Cts (w.alloc (.cells #[.map none] 134)) w.heap.size none [] := ⟨heap_alloc_new w _, rfl⟩
/-- What a call that turns the count leaves. -/
def CRet (K : Nat) (m : Option Nat) (L : Cn) (w : World) (w' : World) : Prop := ∃ m', Cts w' K m' L ∧ Kept (dmineC K m) w w' ∧ (m' = m ∨ ∃ b, m' = some b ∧ w.heap.size ≤ b)
set_option maxRecDepth 100000 in
theorem CRet.of_below {K : Nat} {m : Option Nat} {L : Cn} {w w' : World} (h : Cts w K m L) (hb : Below w.heap.size w w') : CRet K m L w w' := ⟨m, h.below hb, Kept.of_below hb (Nat.le_refl _), .inl rfl⟩
set_option maxRecDepth 100000 in
/-- What was done ahead laid new blocks alone. -/
theorem CRet.from {K : Nat} {m : Option Nat} {L : Cn} {w w1 w2 : World} (hb : Below w.heap.size w w1) (h : CRet K m L w1 w2) : CRet K m L w w2 := by
  obtain ⟨m', hc, hk, hm⟩ := h
  refine ⟨m', hc, (Kept.of_below (S := dmineC K m) hb (Nat.le_refl _)).trans hk fun _ _ h => h, ?_⟩
  rcases hm with e | ⟨b, e, hb2⟩
  · exact .inl e
  · exact .inr ⟨b, e, Nat.le_trans hb.size hb2⟩
set_option maxRecDepth 100000 in
set_option maxHeartbeats 1000000 in
theorem dget_any (K : Nat) (m : Option Nat) (L : Cn) (p q : Int) (w : World) (h : Cts w K m L) (hp : FitsPr (p, q)) :
    Calls Tryz.prog 55 #[.pointer (some ⟨K, 0, none⟩), .agg #[.int .i64 p, .int .i64 q]] w fun e w' => e = .returned (.int .i64 (getC L (p, q))) ∧ w' = (w.alloc (.cells #[.int .i64 p, .int .i64 q] 77)).drew := by
  obtain ⟨w1, hw1⟩ : ∃ w1, w1 = (w.alloc (.cells #[.int .i64 p, .int .i64 q] 77)).drew := ⟨_, rfl⟩
  have h1 : Cts w1 K m L := by rw [hw1]; exact (h.alloc _).drew
  have c0 := h1.cell.1
  have hl := look_c h1.2 hp
  have b0 : w1.cell? ⟨w.heap.size, 0, none⟩ = some (.int .i64 p) := by rw [hw1]; simp
  have b1 : w1.cell? ⟨w.heap.size, 1, none⟩ = some (.int .i64 q) := by rw [hw1]; simp
  have hw' := hw1.symm
  unfold pv at hl
  simp only at hl
  generalize getC L (p, q) = c at *
  clear h h1 hp hw1
  go_enter Tryz.func55, Tryz.ntmps55
  go_wp2_with fail
  go_region
  all_goals (go_wp2_with fail)
  all_goals go_ret
  all_goals exact ⟨rfl, hw'.symm⟩
set_option maxRecDepth 100000 in
/-- The map of a count is turned. -/
theorem CRet.turned {K b : Nat} {L M : Cn} {w w' : World} (h : Cts w K (some b) L) (hm : CMap w' b M) (hg : w.grownBy w' (some b)) : CRet K (some b) M w w' :=
  ⟨some b, ⟨(hg.block K h.lt h.ne).trans h.1, hm⟩, (Kept.refl _ w).grown hg fun _ e _ => .inr e.symm, .inl rfl⟩
set_option maxRecDepth 100000 in
/-- A map made and laid into the count. -/
theorem made_cts {w : World} {K : Nat} (h : Cts w K none []) : Cts ((w.alloc (.map #[] 0)).setCell ⟨K, 0, none⟩ (.map (some w.heap.size))) K (some w.heap.size) [] := by
  have hK := h.lt
  have h1 : (w.alloc (.map #[] 0)).heap[K]? = some (.cells #[.map none] 134 (0, 0)) := (Below.heap_alloc w _ K hK).trans h.1
  refine ⟨heap_setCell_at h1 _, ?_⟩
  exact CMap.kept (cmap_made w) (Below.heap_setCell _ _ _ _ (show w.heap.size ≠ K by omega))
set_option maxRecDepth 100000 in
theorem CRet.made {K : Nat} {M : Cn} {w w' : World} (h : Cts w K none []) (hm : CMap w' w.heap.size M) (hg : ((w.alloc (.map #[] 0)).setCell ⟨K, 0, none⟩ (.map (some w.heap.size))).grownBy w' (some w.heap.size)) : CRet K none M w w' := by
  have h2 := made_cts h
  have hK := h.lt
  refine ⟨some w.heap.size, ⟨(hg.block K h2.lt h2.ne).trans h2.1, hm⟩, ?_, .inr ⟨_, rfl, Nat.le_refl _⟩⟩
  exact (((Kept.refl _ w).alloc _).setCell _ _ fun _ => .inl rfl).grown hg fun _ e hk => by cases e; omega
set_option maxRecDepth 100000 in
set_option maxHeartbeats 2000000 in
theorem dset_any (K : Nat) (m : Option Nat) (L : Cn) (p q n : Int) (w : World) (h : Cts w K m L) (hp : FitsPr (p, q)) (hn : FitsZ n) (hl : L.length ≤ 1048576) :
    Calls Tryz.prog 123 #[.pointer (some ⟨K, 0, none⟩), .agg #[.int .i64 p, .int .i64 q], .int .i64 n] w fun e w' => e = .returned (.tuple #[]) ∧ CRet K m (setC L (p, q) n) w w' := by
  unfold setC
  by_cases h0 : n = 0
  · rw [if_pos h0]
    subst h0
    obtain ⟨w1, hw1⟩ : ∃ w1, w1 = (w.alloc (.cells #[.int .i64 p, .int .i64 q] 77)).drew := ⟨_, rfl⟩
    have h1 : Cts w1 K m L := by rw [hw1]; exact (h.alloc _).drew
    have HB : Hid (Below w.heap.size w w1) := Lib.hid (by rw [hw1]; exact ((Below.refl _ w).alloc (Nat.le_refl _) _).drew)
    obtain ⟨w2, hd, hm2, hg2⟩ := drop_c h1.2 hp
    have c0 := h1.cell.1
    have b0 : w1.cell? ⟨w.heap.size, 0, none⟩ = some (.int .i64 p) := by rw [hw1]; simp
    have b1 : w1.cell? ⟨w.heap.size, 1, none⟩ = some (.int .i64 q) := by rw [hw1]; simp
    have HR : Hid (CRet K m (delC L (p, q)) w w2) := Lib.hid (CRet.from HB.out (by
      cases m with
      | none =>
        have e : delC L (p, q) = [] := hm2
        rw [e]
        exact ⟨none, ⟨(hg2.block K h1.lt (by simp)).trans h1.1, rfl⟩, (Kept.refl _ w1).grown hg2 (fun k e _ => by cases e), .inl rfl⟩
      | some b => exact CRet.turned h1 hm2 hg2))
    have hw' := hw1.symm
    unfold pv at hd
    simp only at hd
    clear h h1 hp hw1 hm2 hg2 HB
    go_enter Tryz.func123, Tryz.ntmps123
    go_wp2_with fail
    go_region
    all_goals (go_wp2_with fail)
    all_goals (try simp only [Exit.inBlock, Exit.then])
    all_goals refine bodyPost_ret (results_none rfl _ _ _) rfl ?_
    all_goals exact ⟨rfl, HR.out⟩
  · rw [if_neg h0]
    obtain ⟨w0, hw0⟩ : ∃ w0, w0 = w.alloc (.cells #[.int .i64 p, .int .i64 q] 77) := ⟨_, rfl⟩
    have hs0 : w0.heap.size = w.heap.size + 1 := by rw [hw0]; simp
    have a0 : Cts w0 K m L := by rw [hw0]; exact h.alloc _
    have HB : Hid (Below w.heap.size w w0) := Lib.hid (by rw [hw0]; exact (Below.refl _ w).alloc (Nat.le_refl _) _)
    obtain ⟨c0, f0⟩ := a0.cell
    have b0 : w0.cell? ⟨w.heap.size, 0, none⟩ = some (.int .i64 p) := by rw [hw0]; simp
    have b1 : w0.cell? ⟨w.heap.size, 1, none⟩ = some (.int .i64 q) := by rw [hw0]; simp
    have hw' := hw0.symm
    cases m with
    | none =>
      obtain rfl : L = [] := h.2
      have hem := deqMap_none
      have hmm := @run_makeMap Tryz.prog
      have hKl := h.lt
      obtain ⟨w1, hw1⟩ : ∃ w1, w1 = (w0.alloc (.map #[] 0)).setCell ⟨K, 0, none⟩ (.map (some w0.heap.size)) := ⟨_, rfl⟩
      have h1 : Cts w1 K (some w0.heap.size) [] := by rw [hw1]; exact made_cts a0
      obtain ⟨w2, hd, hm2, ht2⟩ := put_c (w := w1.drew) h1.drew.2 hp hn (by simp)
      have HR : Hid (CRet K none (insC (p, q) n []) w w2) := Lib.hid (CRet.from HB.out (CRet.made a0 hm2 (by have := ht2.grown; rw [hw1] at this; exact ⟨this.os, this.tape, this.output, this.size, this.block⟩)))
      have c1 := h1.cell.1
      have f2 : (w0.alloc (.map #[] 0)).frozen? ⟨K, 0, none⟩ = false := Lib.frozen_of_heap ((Below.heap_alloc w0 _ K a0.lt).trans a0.1) 0
      have c2 : (w0.alloc (.map #[] 0)).cell? ⟨K, 0, none⟩ = some (.map none) := by rw [← c0]; exact ((Below.refl _ w0).alloc (Nat.le_refl _) _).cell a0.lt
      have d0 : w1.cell? ⟨w.heap.size, 0, none⟩ = some (.int .i64 p) := by
        rw [← b0, hw1]
        exact World.cell?_of_block ((Below.heap_setCell _ _ _ _ (show w.heap.size ≠ K by omega)).trans (Below.heap_alloc w0 _ w.heap.size (by omega)))
      have d1 : w1.cell? ⟨w.heap.size, 1, none⟩ = some (.int .i64 q) := by
        rw [← b1, hw1]
        exact World.cell?_of_block ((Below.heap_setCell _ _ _ _ (show w.heap.size ≠ K by omega)).trans (Below.heap_alloc w0 _ w.heap.size (by omega)))
      have hw1' := hw1.symm
      unfold pv at hd
      simp only at hd
      clear h h1 hp hw1 hm2 ht2 HB a0 hw0 hs0 hKl hn hl
      go_enter Tryz.func123, Tryz.ntmps123
      go_wp2_with fail
      go_region
      all_goals (go_wp2_with fail)
      all_goals go_end0
      all_goals exact ⟨rfl, HR.out⟩
    | some b =>
      have hem := deqMap_some b
      obtain ⟨w2, hd, hm2, ht2⟩ := put_c (w := w0.drew) a0.drew.2 hp hn hl
      have HR : Hid (CRet K (some b) (insC (p, q) n L) w w2) := Lib.hid (CRet.from HB.out (CRet.turned a0 hm2 (by have := ht2.grown; exact ⟨this.os, this.tape, this.output, this.size, this.block⟩)))
      unfold pv at hd
      simp only at hd
      clear h hp hm2 ht2 HB a0 hw0 hs0 hn hl
      go_enter Tryz.func123, Tryz.ntmps123
      go_wp2_with fail
      go_region
      all_goals (go_wp2_with fail)
      all_goals go_end0
      all_goals exact ⟨rfl, HR.out⟩
end Go.Proofs.YtnmacalbbmeedaaGreat
