/- The document's own count, two cells of a block (it may lie in a greater struct): its memory, before, Get. -/
import Derived.Test.YtbnekkcjkdghcaaCMap
import Derived.Test.YtbnekkcjkdghcaaPair
import Derived.Test.YtbnekkcjkdghcaaIntE
import Derived.BigQuiet
import Derived.Shelf.SlSortCmp.QuietGrown
namespace Go.Proofs.Ytbnekkcjkdghcaa
open Go.RowKit Go.Maps

def keysC (L : Cn) : List (Int × Int) := L.map (·.1)
def valsC (L : Cn) : List Int := L.map (·.2)
set_option maxRecDepth 100000 in
theorem keysC_len (L : Cn) : (keysC L).length = L.length := by simp [keysC]
set_option maxRecDepth 100000 in
theorem valsC_len (L : Cn) : (valsC L).length = L.length := by simp [valsC]
/-- The document's count at place o of block K, which has the cells cs: its pairs lie in v, how often in u; all of it lies from base on. -/
structure Rco (w : World) (base K o : Nat) (cs : Array Value) (ty : TypeId) (v u : Value) (L : Cn) : Prop where
  box : w.heap[K]? = some (.cells cs ty (0, 0))
  c0 : cs[o]? = some v
  c1 : cs[o + 1]? = some u
  ge : base ≤ K
  keys : ownE pairE w base v (keysC L)
  vals : ownE intE w base u (valsC L)
/-- Its blocks. -/
def dmineR (K : Nat) (v u : Value) (k : Nat) : Prop := k = K ∨ some k = v.ownBlock ∨ some k = u.ownBlock
variable {w w' : World} {base K o : Nat} {cs : Array Value} {ty : TypeId} {v u : Value} {L : Cn}
set_option maxRecDepth 100000 in
theorem Rco.lt (h : Rco w base K o cs ty v u L) : ∀ k, dmineR K v u k → base ≤ k ∧ k < w.heap.size := by
  rintro k (rfl | e | e)
  · exact ⟨h.ge, (Array.getElem?_eq_some_iff.1 h.box).1⟩
  · exact h.keys.lt k e.symm
  · exact h.vals.lt k e.symm
set_option maxRecDepth 100000 in
theorem Rco.kept (h : Rco w base K o cs ty v u L) (hk : ∀ k, k < w.heap.size → dmineR K v u k → w'.heap[k]? = w.heap[k]?) : Rco w' base K o cs ty v u L :=
  ⟨(hk K (h.lt K (.inl rfl)).2 (.inl rfl)).trans h.box, h.c0, h.c1, h.ge, h.keys.kept fun g hg => hk g (h.keys.lt g hg).2 (.inr (.inl hg.symm)), h.vals.kept fun g hg => hk g (h.vals.lt g hg).2 (.inr (.inr hg.symm))⟩
set_option maxRecDepth 100000 in
theorem Rco.below (h : Rco w base K o cs ty v u L) (hb : Below w.heap.size w w') : Rco w' base K o cs ty v u L := h.kept fun k hk _ => hb.block k hk
set_option maxRecDepth 100000 in
theorem Rco.alloc (h : Rco w base K o cs ty v u L) (b : Obj) : Rco (w.alloc b) base K o cs ty v u L := h.below ((Below.refl _ w).alloc (Nat.le_refl _) b)
set_option maxRecDepth 100000 in
theorem Rco.drew (h : Rco w base K o cs ty v u L) : Rco w.drew base K o cs ty v u L := h.kept fun _ _ _ => rfl
set_option maxRecDepth 100000 in
theorem Rco.drewN (h : Rco w base K o cs ty v u L) (n : Nat) : Rco (w.drewN n) base K o cs ty v u L := h.kept fun _ _ _ => rfl
set_option maxRecDepth 100000 in
theorem Rco.mono {b' : Nat} (h : Rco w base K o cs ty v u L) (hb : b' ≤ base) : Rco w b' K o cs ty v u L := ⟨h.box, h.c0, h.c1, Nat.le_trans hb h.ge, h.keys.mono hb, h.vals.mono hb⟩
set_option maxRecDepth 100000 in
theorem Rco.apart (h : Rco w base K o cs ty v u L) (hty : ty ≠ pairE.ty ∧ ty ≠ intE.ty) : v.ownBlock ≠ some K ∧ u.ownBlock ≠ some K := by
  constructor
  · intro e
    obtain ⟨c, hc⟩ := h.keys.block K e
    rw [h.box] at hc
    have := congrArg (fun o => match o with | some (Obj.cells _ t _) => t | _ => 0) hc
    exact hty.1 this
  · intro e
    obtain ⟨c, hc⟩ := h.vals.block K e
    rw [h.box] at hc
    have := congrArg (fun o => match o with | some (Obj.cells _ t _) => t | _ => 0) hc
    exact hty.2 this
set_option maxRecDepth 100000 in
/-- Another cell of the block is written over. -/
theorem Rco.setCell (h : Rco w base K o cs ty v u L) (hty : ty ≠ pairE.ty ∧ ty ≠ intE.ty) (i : Nat) (x : Value) (h0 : i ≠ o) (h1 : i ≠ o + 1) : Rco (w.setCell ⟨K, i, none⟩ x) base K o (cs.setIfInBounds i x) ty v u L :=
  ⟨(heap_setCell_at h.box x), by rw [Array.getElem?_setIfInBounds_ne h0]; exact h.c0, by rw [Array.getElem?_setIfInBounds_ne h1]; exact h.c1, h.ge,
    h.keys.kept fun g hg => Below.heap_setCell _ ⟨K, i, none⟩ _ g (fun e => (h.apart hty).1 (by rw [hg]; exact congrArg _ e)), h.vals.kept fun g hg => Below.heap_setCell _ ⟨K, i, none⟩ _ g (fun e => (h.apart hty).2 (by rw [hg]; exact congrArg _ e))⟩
set_option maxRecDepth 100000 in
theorem drcell (h : Rco w base K o cs ty v u L) : w.cell? ⟨K, o, none⟩ = some v ∧ w.cell? ⟨K, o + 1, none⟩ = some u ∧ w.frozen? ⟨K, o, none⟩ = false ∧ w.frozen? ⟨K, o + 1, none⟩ = false :=
  ⟨by rw [cell_of_row w K o _ ty (0, 0) h.box]; exact h.c0, by rw [cell_of_row w K (o + 1) _ ty (0, 0) h.box]; exact h.c1, Lib.frozen_of_heap h.box o, Lib.frozen_of_heap h.box (o + 1)⟩
set_option maxRecDepth 100000 in
/-- Behind the first of two stores. -/
theorem drcell1 (h : Rco w base K o cs ty v u L) (x : Value) : (w.setCell ⟨K, o, none⟩ x).cell? ⟨K, o + 1, none⟩ = some u ∧ (w.setCell ⟨K, o, none⟩ x).frozen? ⟨K, o + 1, none⟩ = false := by
  have h1 := heap_setCell_at (i := o) h.box x
  refine ⟨?_, Lib.frozen_of_heap h1 _⟩
  rw [cell_of_row _ K (o + 1) _ ty (0, 0) h1, Array.getElem?_setIfInBounds_ne (by omega)]
  exact h.c1
set_option maxRecDepth 100000 in
theorem rnew_rco (w : World) : Rco (w.alloc (.cells #[.slice none 0 0, .slice none 0 0] 34)) w.heap.size w.heap.size 0 #[.slice none 0 0, .slice none 0 0] 34 (.slice none 0 0) (.slice none 0 0) [] := ⟨heap_alloc_new w _, rfl, rfl, Nat.le_refl _, ownE.nil _ _, ownE.nil _ _⟩
set_option maxRecDepth 100000 in
theorem dpair_eql_no {a b c d : Int} (h : ¬ (a, b) = (c, d)) (w : World) : (binOp .eql 41 (.agg #[.int .i64 a, .int .i64 b]) (.agg #[.int .i64 c, .int .i64 d])).run Try.prog w = .ok (.bool false) w := by
  have h' : ¬ (a = c ∧ b = d) := fun e => h (by rw [e.1, e.2])
  have u32 := Try.underlying41
  have u3 := Try.underlying3
  by_cases e : a = c
  · have e2 : ¬ b = d := fun k => h' ⟨e, k⟩
    subst e
    simp [go_sem, u32, u3, e2]
  · simp [go_sem, u32, u3, e]
set_option maxRecDepth 100000 in
theorem pair_neq_yes {a b c d : Int} (h : ¬ (a, b) = (c, d)) (w : World) : (binOp .neq 41 (.agg #[.int .i64 a, .int .i64 b]) (.agg #[.int .i64 c, .int .i64 d])).run Try.prog w = .ok (.bool true) w := by
  have h' : ¬ (a = c ∧ b = d) := fun e => h (by rw [e.1, e.2])
  have u32 := Try.underlying41
  have u3 := Try.underlying3
  by_cases e : a = c
  · have e2 : ¬ b = d := fun k => h' ⟨e, k⟩
    subst e
    simp [go_sem, u32, u3, e2]
  · simp [go_sem, u32, u3, e]
set_option maxRecDepth 100000 in
theorem pair_eql_yes (a b : Int) (w : World) : (binOp .eql 41 (.agg #[.int .i64 a, .int .i64 b]) (.agg #[.int .i64 a, .int .i64 b])).run Try.prog w = .ok (.bool true) w := by
  have u32 := Try.underlying41
  have u3 := Try.underlying3
  simp [go_sem, u32, u3]
set_option maxRecDepth 100000 in
theorem pair_neq_no (a b : Int) (w : World) : (binOp .neq 41 (.agg #[.int .i64 a, .int .i64 b]) (.agg #[.int .i64 a, .int .i64 b])).run Try.prog w = .ok (.bool false) w := by
  have u32 := Try.underlying41
  have u3 := Try.underlying3
  simp [go_sem, u32, u3]
set_option maxRecDepth 100000 in
/-- The cells of a place of the document's count. -/
theorem Rco.at (h : Rco w base K o cs ty v u L) {k : Nat} (hk : k < L.length) : ∃ g1 c1 g2 c2, v = .slice (some ⟨g1, 0, none⟩) L.length c1 ∧ u = .slice (some ⟨g2, 0, none⟩) L.length c2 ∧
    w.cell? ⟨g1, k * 2, none⟩ = some (.int .i64 L[k].1.1) ∧ w.cell? ⟨g1, k * 2 + 1, none⟩ = some (.int .i64 L[k].1.2) ∧ w.cell? ⟨g2, k, none⟩ = some (.int .i64 L[k].2) := by
  obtain ⟨a1, c1, rfl, _⟩ := h.keys.form
  obtain ⟨a2, c2, rfl, _⟩ := h.vals.form
  obtain ⟨g1, rfl, _⟩ := ownE_some h.keys (by rw [keysC_len]; omega)
  obtain ⟨g2, rfl, _⟩ := ownE_some h.vals (by rw [valsC_len]; omega)
  have hk1 : k < (keysC L).length := by rw [keysC_len]; exact hk
  have hk2 : k < (valsC L).length := by rw [valsC_len]; exact hk
  obtain ⟨x0, x1⟩ := pairs_at h.keys.reads (Below.refl _ w) hk1
  have y0 := ints_cell h.vals.reads (Below.refl _ w) hk2
  have e1 : (keysC L)[k] = L[k].1 := by simp [keysC]
  have e2 : (valsC L)[k] = L[k].2 := by simp [valsC]
  rw [e1, add_zero_off] at x0 x1
  rw [e2, add_zero_off] at y0
  exact ⟨g1, c1, g2, c2, by rw [keysC_len], by rw [valsC_len], x0, x1, y0⟩
set_option maxRecDepth 100000 in
theorem dbefore_any (a b r t : Int) (w : World) : Calls Try.prog 44 #[.agg #[.int .i64 a, .int .i64 b], .agg #[.int .i64 r, .int .i64 t]] w fun e w' => e = .returned (.bool (decide (pb (a, b) (r, t)))) ∧ ∃ q os', w' = Sort.grow (w.drewN q) os' := by
  obtain ⟨w1, hw1⟩ : ∃ w1, w1 = (w.alloc (.cells #[.int .i64 a, .int .i64 b] 41)).alloc (.cells #[.int .i64 r, .int .i64 t] 41) := ⟨_, rfl⟩
  have HG : Hid (∃ q os', w1 = Sort.grow (w.drewN q) os') := Lib.hid ⟨0, _, by rw [hw1, Sort.alloc_eq_grow, Sort.alloc_eq_grow, Sort.grow_grow]; rfl⟩
  have u0 : w1.cell? ⟨w.heap.size, 0, none⟩ = some (.int .i64 a) := by rw [hw1]; simp
  have u1 : w1.cell? ⟨w.heap.size, 1, none⟩ = some (.int .i64 b) := by rw [hw1]; simp
  have v0 : w1.cell? ⟨w.heap.size + 1, 0, none⟩ = some (.int .i64 r) := by rw [hw1]; simp
  have v1 : w1.cell? ⟨w.heap.size + 1, 1, none⟩ = some (.int .i64 t) := by rw [hw1]; simp
  have hw' := hw1.symm
  clear hw1
  by_cases h1 : a < r
  · have e : decide (pb (a, b) (r, t)) = true := decide_eq_true (.inl h1)
    rw [e]
    go_enter Try.func44, Try.ntmps44
    go_wp2
    go_ret
    exact ⟨rfl, HG.out⟩
  · by_cases h2 : a = r
    · subst h2
      by_cases h3 : b < t
      · have e : decide (pb (a, b) (a, t)) = true := decide_eq_true (.inr ⟨rfl, h3⟩)
        rw [e]
        go_enter Try.func44, Try.ntmps44
        go_wp2
        go_ret
        exact ⟨rfl, HG.out⟩
      · have e : decide (pb (a, b) (a, t)) = false := decide_eq_false (by unfold pb; simp; omega)
        rw [e]
        go_enter Try.func44, Try.ntmps44
        go_wp2
        go_ret
        exact ⟨rfl, HG.out⟩
    · have e : decide (pb (a, b) (r, t)) = false := decide_eq_false (by unfold pb; simp; omega)
      rw [e]
      go_enter Try.func44, Try.ntmps44
      go_wp2
      go_ret
      exact ⟨rfl, HG.out⟩
def RGetRel (w1 : World) (L : Cn) (p : Int × Int) (i : Value) (wr : World) : Prop := ∃ k n : Nat, i = .int .i64 (k : Int) ∧ k ≤ L.length ∧ getC L p = getC (L.drop k) p ∧ wr = w1.drewN n
def GetRet (w : World) (c : Int) (p q : Int) (e : Ending) (w' : World) : Prop := e = .returned (.int .i64 c) ∧ ∃ n, w' = (w.alloc (.cells #[.int .i64 p, .int .i64 q] 41)).drewN n
set_option maxRecDepth 100000 in
set_option maxHeartbeats 2000000 in
theorem rget_any (base K o : Nat) (cs : Array Value) (ty : TypeId) (v u : Value) (L : Cn) (p q : Int) (w : World) (h : Rco w base K o cs ty v u L) (hl : L.length ≤ 1000000) :
    Calls Try.prog 13 #[.pointer (some ⟨K, o, none⟩), .agg #[.int .i64 p, .int .i64 q]] w fun e w' => GetRet w (getC L (p, q)) p q e w' := by
  obtain ⟨w1, hw1⟩ : ∃ w1, w1 = w.alloc (.cells #[.int .i64 p, .int .i64 q] 41) := ⟨_, rfl⟩
  have h1 : Rco w1 base K o cs ty v u L := by rw [hw1]; exact h.alloc _
  have b0 : w1.cell? ⟨w.heap.size, 0, none⟩ = some (.int .i64 p) := by rw [hw1]; simp
  have b1 : w1.cell? ⟨w.heap.size, 1, none⟩ = some (.int .i64 q) := by rw [hw1]; simp
  have hw' := hw1.symm
  have HW := Lib.hid hw1
  have H1 := Lib.hid h1
  obtain ⟨N, hN⟩ : ∃ N, L.length = N := ⟨_, rfl⟩
  have HN := Lib.hid hN
  obtain ⟨a1, cp1, hv, _⟩ := h1.keys.form
  obtain ⟨a2, cp2, hu, _⟩ := h1.vals.form
  rw [keysC_len, hN] at hv
  rw [valsC_len, hN] at hu
  subst hv
  subst hu
  clear h h1 hw1
  rw [hN] at hl
  clear hN
  go_enter Try.func13, Try.ntmps13
  go_wp2
  clear hw'
  go_loopw [5] (fun i wr => RGetRel w1 L (p, q) i wr) (fun i _ => N + 1 - (intOf i).toNat)
  case atStart => exact ⟨0, 0, rfl, Nat.zero_le _, rfl, rfl⟩
  case round =>
    obtain ⟨k, n, rfl, hk, hrest, hwr⟩ := hrel
    have HWR := Lib.hid hwr
    have HR := Lib.hid hrest
    rw [HN.out] at hk
    have H2 : Hid (Rco wr base K o cs ty (.slice a1 N cp1) (.slice a2 N cp2) L) := Lib.hid (by rw [hwr]; exact H1.out.drewN n)
    have g0 : wr.cell? ⟨w.heap.size, 0, none⟩ = some (.int .i64 p) := by rw [hwr]; exact b0
    have g1 : wr.cell? ⟨w.heap.size, 1, none⟩ = some (.int .i64 q) := by rw [hwr]; exact b1
    obtain ⟨c0, c1, _, _⟩ := drcell H2.out
    clear hwr hrest
    by_cases hgo : k < N
    · have hkL : k < L.length := by rw [HN.out]; exact hgo
      have hkI : (k : Int) < (N : Int) := by omega
      obtain ⟨ga, ca, gb, cb, ea, eb, x0, x1, y0⟩ := H2.out.at hkL
      obtain ⟨rfl, _, _⟩ := Value.slice.inj ea
      obtain ⟨rfl, _, _⟩ := Value.slice.inj eb
      have hd : L.drop k = L[k] :: L.drop (k + 1) := List.drop_eq_getElem_cons hkL
      have hgt : getC (L.drop k) (p, q) = if L[k].1 = (p, q) then L[k].2 else getC (L.drop (k + 1)) (p, q) := by rw [hd]; rfl
      have HGT := Lib.hid hgt
      clear ea eb hd hgt
      obtain ⟨z0, z1, zc, hz⟩ : ∃ z0 z1 zc, L[k] = ((z0, z1), zc) := ⟨_, _, _, rfl⟩
      rw [hz] at x0 x1 y0 HGT
      simp only at x0 x1 y0 HGT
      have HZ := Lib.hid hz
      clear hz
      by_cases hpq : (z0, z1) = (p, q)
      · have e0 : z0 = p := congrArg Prod.fst hpq
        have e1 : z1 = q := congrArg Prod.snd hpq
        subst e0
        subst e1
        have HC : Hid (getC L (z0, z1) = zc) := Lib.hid (by rw [HR.out, HGT.out, if_pos rfl])
        clear hpq HGT
        go_wp2_with fail
        go_quiet (fail)
        go_wp2
        go_ret
        exact ⟨by rw [HC.out]; rfl, n + nq, by rw [HWR.out, HW.out, World.drewN_drewN]⟩
      · have hno := dpair_eql_no hpq
        have HC : Hid (getC L (p, q) = getC (L.drop (k + 1)) (p, q)) := Lib.hid (by rw [HR.out, HGT.out, if_neg hpq])
        clear hpq HGT
        go_wp2_with fail
        go_quiet (fail)
        go_wp2
        go_roundw
        case rel => exact ⟨k + 1, n + nq, by simp, by rw [HN.out]; omega, HC.out, by rw [HWR.out, World.drewN_drewN]⟩
        case measure => simp [intOf]; omega
    · have hkI : ¬ (k : Int) < (N : Int) := by omega
      have HC : Hid (getC L (p, q) = 0) := Lib.hid (by rw [HR.out, List.drop_of_length_le (by rw [HN.out]; omega)]; rfl)
      go_wp2
      go_ret
      exact ⟨by rw [HC.out]; rfl, n, by rw [HWR.out, HW.out]⟩
end Go.Proofs.Ytbnekkcjkdghcaa
