/- What the document's set leans on. -/
import Derived.Test.YtbnekkcjkdghcaaRco
namespace Go.Proofs.Ytbnekkcjkdghcaa
open Go.RowKit Go.Maps
open Go.Sort (grow heap_grow_old)

set_option maxRecDepth 100000 in
theorem dgrown_below (w : World) (n : Nat) (os : Array Obj) : Below w.heap.size w (grow (w.drewN n) os) := ⟨rfl, rfl, rfl, by simp [World.drewN], fun k hk => heap_grow_old _ _ hk⟩
/-! Two rows of different kinds. -/
set_option maxRecDepth 100000 in
theorem down_ints {W w2 : World} {b : Nat} {vp vc : Value} {P : List (Int × Int)} {C : List Int} (hp : ownE pairE W b vp P) (hc : ownE intE W b vc C) (hg : W.grownBy w2 vp.ownBlock) : ownE intE w2 b vc C :=
  hc.kept fun g hgo => hg.block g (hc.lt g hgo).2 fun e => by
    obtain ⟨cs, h1⟩ := hp.block g e.symm
    obtain ⟨cs2, h2⟩ := hc.block g hgo
    rw [h1] at h2
    have := congrArg (fun o => match o with | some (Obj.cells _ t _) => t | _ => 0) h2
    simp [pairE, intE] at this
set_option maxRecDepth 100000 in
theorem down_pairs {W w2 : World} {b : Nat} {vp vc : Value} {P : List (Int × Int)} {C : List Int} (hp : ownE pairE W b vp P) (hc : ownE intE W b vc C) (hg : W.grownBy w2 vc.ownBlock) : ownE pairE w2 b vp P :=
  hp.kept fun g hgo => hg.block g (hp.lt g hgo).2 fun e => by
    obtain ⟨cs, h1⟩ := hc.block g e.symm
    obtain ⟨cs2, h2⟩ := hp.block g hgo
    rw [h1] at h2
    have := congrArg (fun o => match o with | some (Obj.cells _ t _) => t | _ => 0) h2
    simp [pairE, intE] at this
set_option maxRecDepth 100000 in
/-- A literal of one element is not the row that grows. -/
theorem dlit_kept {α : Type} {R : Elt α} {wr W w2 : World} {b N : Nat} {v : Value} {x : α} {β : Type} {R2 : Elt β} {A : List β} (h : eltsAt R W (.slice (some ⟨N, 0, none⟩) 1 1) [x]) (ho : ownE R2 wr b v A) (hN : wr.heap.size ≤ N) (hNW : N < W.heap.size) (hg : W.grownBy w2 v.ownBlock) : eltsAt R w2 (.slice (some ⟨N, 0, none⟩) 1 1) [x] :=
  h.kept hg.size fun a n c e => by
    cases e
    exact hg.block N hNW fun e => by have := (ho.lt N e.symm).2; omega
set_option maxRecDepth 100000 in
theorem dbelow_own2 {α : Type} {R : Elt α} {w5 W w2 : World} {v : Value} {A : List α} (h : Below w5.heap.size w5 W) (hg : W.grownBy w2 v.ownBlock) (ho : ownE R W w5.heap.size v A) : Below w5.heap.size w5 w2 := h.grown hg h.size fun k e => (ho.lt k e).1
abbrev At5 (W : World) (K o g1 g2 k : Nat) (v u : Value) (x0 x1 c : Int) : Prop :=
  W.cell? ⟨K, o, none⟩ = some v ∧ W.cell? ⟨K, o + 1, none⟩ = some u ∧ W.cell? ⟨g1, k * 2, none⟩ = some (.int .i64 x0) ∧ W.cell? ⟨g1, k * 2 + 1, none⟩ = some (.int .i64 x1) ∧ W.cell? ⟨g2, k, none⟩ = some (.int .i64 c)
/-- So far: k places are looked at, O is laid, d: the pair is laid. -/
structure SInv (L : Cn) (p : Int × Int) (n : Int) (k : Nat) (O : Cn) (d : Bool) : Prop where
  le : k ≤ L.length + 1
  last : k ≤ L.length ∨ d = true
  size : O.length ≤ k + (bif d then 1 else 0)
  rest : O ++ (bif d then delC (L.drop k) p else insC p n (L.drop k)) = setC L p n
set_option maxRecDepth 100000 in
theorem SInv.start (L : Cn) (p : Int × Int) (n : Int) : SInv L p n 0 [] (decide (n = 0)) := by
  refine ⟨by omega, .inl (by omega), by simp, ?_⟩
  unfold setC
  by_cases h : n = 0 <;> simp [h]
set_option maxRecDepth 100000 in
theorem del_cons (x : (Int × Int) × Int) (r : Cn) (p : Int × Int) : delC (x :: r) p = if x.1 = p then delC r p else x :: delC r p := by
  unfold delC
  by_cases e : x.1 = p
  · rw [if_pos e, List.filter_cons_of_neg (by simp [e])]
  · rw [if_neg e, List.filter_cons_of_pos (by simp [e])]
variable {L : Cn} {p : Int × Int} {n : Int} {k : Nat} {O : Cn}
set_option maxRecDepth 100000 in
theorem SInv.s1 (h : SInv L p n k O true) (hk : k = L.length) : SInv L p n (k + 1) O true :=
  ⟨by omega, .inr rfl, by have := h.size; simp at this ⊢; omega, by
    have := h.rest
    rw [List.drop_of_length_le (by omega)] at this ⊢
    exact this⟩
set_option maxRecDepth 100000 in
theorem SInv.s2 (h : SInv L p n k O false) (hk : k = L.length) : SInv L p n (k + 1) (O ++ [(p, n)]) true :=
  ⟨by omega, .inr rfl, by have := h.size; simp at this ⊢; omega, by
    have := h.rest
    rw [List.drop_of_length_le (by omega)] at this ⊢
    simpa [insC, delC] using this⟩
set_option maxRecDepth 100000 in
theorem SInv.s3 (h : SInv L p n k O true) (hk : k < L.length) (e : L[k].1 = p) : SInv L p n (k + 1) O true :=
  ⟨by omega, .inr rfl, by have := h.size; simp at this ⊢; omega, by
    have := h.rest
    rw [List.drop_eq_getElem_cons hk, cond_true, del_cons, if_pos e] at this
    exact this⟩
set_option maxRecDepth 100000 in
theorem SInv.s4 (h : SInv L p n k O true) (hk : k < L.length) (e : ¬ L[k].1 = p) : SInv L p n (k + 1) (O ++ [L[k]]) true :=
  ⟨by omega, .inr rfl, by have := h.size; simp at this ⊢; omega, by
    have := h.rest
    rw [List.drop_eq_getElem_cons hk, cond_true, del_cons, if_neg e] at this
    simpa using this⟩
set_option maxRecDepth 100000 in
theorem SInv.s5 (h : SInv L p n k O false) (hk : k < L.length) (e : pb L[k].1 p) : SInv L p n (k + 1) (O ++ [L[k]]) false :=
  ⟨by omega, .inl hk, by have := h.size; simp at this ⊢; omega, by
    have := h.rest
    rw [List.drop_eq_getElem_cons hk, cond_false, insC, if_pos e] at this
    simpa using this⟩
set_option maxRecDepth 100000 in
theorem SInv.s6 (h : SInv L p n k O false) (hk : k < L.length) (hb : ¬ pb L[k].1 p) (e : L[k].1 = p) : SInv L p n (k + 1) (O ++ [(p, n)]) true :=
  ⟨by omega, .inr rfl, by have := h.size; simp at this ⊢; omega, by
    have := h.rest
    rw [List.drop_eq_getElem_cons hk, cond_false, insC, if_neg hb, del_cons, if_pos e] at this
    simpa using this⟩
set_option maxRecDepth 100000 in
theorem SInv.s7 (h : SInv L p n k O false) (hk : k < L.length) (hb : ¬ pb L[k].1 p) (e : ¬ L[k].1 = p) : SInv L p n (k + 1) (O ++ [(p, n)] ++ [L[k]]) true :=
  ⟨by omega, .inr rfl, by have := h.size; simp at this ⊢; omega, by
    have := h.rest
    rw [List.drop_eq_getElem_cons hk, cond_false, insC, if_neg hb, del_cons, if_neg e] at this
    simpa using this⟩
set_option maxRecDepth 100000 in
theorem keys_snoc (O : Cn) (x0 x1 c : Int) : keysC (O ++ [((x0, x1), c)]) = keysC O ++ [(x0, x1)] := by simp [keysC]
set_option maxRecDepth 100000 in
theorem vals_snoc (O : Cn) (x : Int × Int) (c : Int) : valsC (O ++ [(x, c)]) = valsC O ++ [c] := by simp [valsC]
end Go.Proofs.Ytbnekkcjkdghcaa
