/- Texts in one: Rct, RSetP, RSetW, RAdd. -/
import Derived.Test.YtejcemmhhpbchaaGreatGH
import Derived.Test.YtejcemmhhpbchaaGreatIntE
import Derived.BigQuiet
import Derived.Test.YtejcemmhhpbchaaGreatCAddV
/- The document's own count: its memory, before, Get. -/
namespace Go.Proofs.YtejcemmhhpbchaaGreat
open Go.RowKit Go.Maps

def valsC (L : Cn) : List Int := L.map (·.2)
set_option maxRecDepth 100000 in
theorem keysC_len (L : Cn) : (keysC L).length = L.length := by simp [keysC]
set_option maxRecDepth 100000 in
theorem valsC_len (L : Cn) : (valsC L).length = L.length := by simp [valsC]
/-- The document's count in block K: its pairs lie in v, how often in u; all of it lies from base on. -/
structure Rct (w : World) (base K : Nat) (v u : Value) (L : Cn) : Prop where
  cells : w.heap[K]? = some (.cells #[v, u] 45 (0, 0))
  ge : base ≤ K
  keys : ownE pairE w base v (keysC L)
  vals : ownE intE w base u (valsC L)
/-- Its blocks. -/
def dmineR (K : Nat) (v u : Value) (k : Nat) : Prop := k = K ∨ some k = v.ownBlock ∨ some k = u.ownBlock
set_option maxRecDepth 100000 in
theorem Rct.lt {w : World} {base K : Nat} {v u : Value} {L : Cn} (h : Rct w base K v u L) : ∀ k, dmineR K v u k → base ≤ k ∧ k < w.heap.size := by
  rintro k (rfl | e | e)
  · exact ⟨h.ge, (Array.getElem?_eq_some_iff.1 h.cells).1⟩
  · exact h.keys.lt k e.symm
  · exact h.vals.lt k e.symm
set_option maxRecDepth 100000 in
theorem Rct.kept {w w' : World} {base K : Nat} {v u : Value} {L : Cn} (h : Rct w base K v u L) (hk : ∀ k, k < w.heap.size → dmineR K v u k → w'.heap[k]? = w.heap[k]?) : Rct w' base K v u L :=
  ⟨(hk K (h.lt K (.inl rfl)).2 (.inl rfl)).trans h.cells, h.ge, h.keys.kept fun g hg => hk g (h.keys.lt g hg).2 (.inr (.inl hg.symm)), h.vals.kept fun g hg => hk g (h.vals.lt g hg).2 (.inr (.inr hg.symm))⟩
set_option maxRecDepth 100000 in
theorem Rct.below {w w' : World} {base K : Nat} {v u : Value} {L : Cn} (h : Rct w base K v u L) (hb : Below w.heap.size w w') : Rct w' base K v u L := h.kept fun k hk _ => hb.block k hk
set_option maxRecDepth 100000 in
theorem Rct.alloc {w : World} {base K : Nat} {v u : Value} {L : Cn} (h : Rct w base K v u L) (o : Obj) : Rct (w.alloc o) base K v u L := h.below ((Below.refl _ w).alloc (Nat.le_refl _) o)
set_option maxRecDepth 100000 in
theorem Rct.drew {w : World} {base K : Nat} {v u : Value} {L : Cn} (h : Rct w base K v u L) : Rct w.drew base K v u L := h.kept fun _ _ _ => rfl
set_option maxRecDepth 100000 in
theorem Rct.drewN {w : World} {base K : Nat} {v u : Value} {L : Cn} (h : Rct w base K v u L) (n : Nat) : Rct (w.drewN n) base K v u L := h.kept fun _ _ _ => rfl
set_option maxRecDepth 100000 in
theorem Rct.mono {w : World} {base b' K : Nat} {v u : Value} {L : Cn} (h : Rct w base K v u L) (hb : b' ≤ base) : Rct w b' K v u L := ⟨h.cells, Nat.le_trans hb h.ge, h.keys.mono hb, h.vals.mono hb⟩
set_option maxRecDepth 100000 in
theorem drcell {w : World} {K : Nat} {v u : Value} (h : w.heap[K]? = some (.cells #[v, u] 45 (0, 0))) : w.cell? ⟨K, 0, none⟩ = some v ∧ w.cell? ⟨K, 1, none⟩ = some u ∧ w.frozen? ⟨K, 0, none⟩ = false ∧ w.frozen? ⟨K, 1, none⟩ = false :=
  ⟨by rw [cell_of_row w K 0 _ 45 (0, 0) h]; rfl, by rw [cell_of_row w K 1 _ 45 (0, 0) h]; rfl, Lib.frozen_of_heap h 0, Lib.frozen_of_heap h 1⟩
set_option maxRecDepth 100000 in
theorem rnew_rct (w : World) : Rct (w.alloc (.cells #[.slice none 0 0, .slice none 0 0] 45)) w.heap.size w.heap.size (.slice none 0 0) (.slice none 0 0) [] := ⟨heap_alloc_new w _, Nat.le_refl _, ownE.nil _ _, ownE.nil _ _⟩
set_option maxRecDepth 100000 in
theorem dpair_eql_no {a b c d : Int} (h : ¬ (a, b) = (c, d)) (w : World) : (binOp .eql 37 (.agg #[.int .i64 a, .int .i64 b]) (.agg #[.int .i64 c, .int .i64 d])).run Tryz.prog w = .ok (.bool false) w := by
  have h' : ¬ (a = c ∧ b = d) := fun e => h (by rw [e.1, e.2])
  have u32 := Tryz.underlying37
  have u3 := Tryz.underlying3
  by_cases e : a = c
  · have e2 : ¬ b = d := fun k => h' ⟨e, k⟩
    subst e
    simp [go_sem, u32, u3, e2]
  · simp [go_sem, u32, u3, e]
set_option maxRecDepth 100000 in
theorem pair_neq_yes {a b c d : Int} (h : ¬ (a, b) = (c, d)) (w : World) : (binOp .neq 37 (.agg #[.int .i64 a, .int .i64 b]) (.agg #[.int .i64 c, .int .i64 d])).run Tryz.prog w = .ok (.bool true) w := by
  have h' : ¬ (a = c ∧ b = d) := fun e => h (by rw [e.1, e.2])
  have u32 := Tryz.underlying37
  have u3 := Tryz.underlying3
  by_cases e : a = c
  · have e2 : ¬ b = d := fun k => h' ⟨e, k⟩
    subst e
    simp [go_sem, u32, u3, e2]
  · simp [go_sem, u32, u3, e]
set_option maxRecDepth 100000 in
theorem pair_eql_yes (a b : Int) (w : World) : (binOp .eql 37 (.agg #[.int .i64 a, .int .i64 b]) (.agg #[.int .i64 a, .int .i64 b])).run Tryz.prog w = .ok (.bool true) w := by
  have u32 := Tryz.underlying37
  have u3 := Tryz.underlying3
  simp [go_sem, u32, u3]
set_option maxRecDepth 100000 in
theorem pair_neq_no (a b : Int) (w : World) : (binOp .neq 37 (.agg #[.int .i64 a, .int .i64 b]) (.agg #[.int .i64 a, .int .i64 b])).run Tryz.prog w = .ok (.bool false) w := by
  have u32 := Tryz.underlying37
  have u3 := Tryz.underlying3
  simp [go_sem, u32, u3]
set_option maxRecDepth 100000 in
/-- The cells of a place of the document's count. -/
theorem Rct.at {w : World} {base K : Nat} {v u : Value} {L : Cn} (h : Rct w base K v u L) {k : Nat} (hk : k < L.length) : ∃ g1 c1 g2 c2, v = .slice (some ⟨g1, 0, none⟩) L.length c1 ∧ u = .slice (some ⟨g2, 0, none⟩) L.length c2 ∧
    w.cell? ⟨g1, k * 2, none⟩ = some (.int .i64 L[k].1.1) ∧ w.cell? ⟨g1, k * 2 + 1, none⟩ = some (.int .i64 L[k].1.2) ∧ w.cell? ⟨g2, k, none⟩ = some (.int .i64 L[k].2) := by
  obtain ⟨a1, c1, rfl, _⟩ := h.keys.form
  obtain ⟨a2, c2, rfl, _⟩ := h.vals.form
  obtain ⟨g1, rfl, _⟩ := ownE_some h.keys (by rw [keysC_len]; omega)
  obtain ⟨g2, rfl, _⟩ := ownE_some h.vals (by rw [valsC_len]; omega)
  have hk1 : k < (keysC L).length := by rw [keysC_len]; exact hk
  have hk2 : k < (valsC L).length := by rw [valsC_len]; exact hk
  obtain ⟨x0, x1⟩ := pairs_at h.keys.reads (Below.refl _ w) hk1
  have y0 := ints_cell h.vals.reads (Below.refl _ w) hk2
  have e1 : (keysC L)[k] = L[k].1 := by simp [keysC]
  have e2 : (valsC L)[k] = L[k].2 := by simp [valsC]
  rw [e1, add_zero_off] at x0 x1
  rw [e2, add_zero_off] at y0
  exact ⟨g1, c1, g2, c2, by rw [keysC_len], by rw [valsC_len], x0, x1, y0⟩
set_option maxRecDepth 100000 in
theorem dbefore_any (a b r t : Int) (w : World) : Calls Tryz.prog 67 #[.agg #[.int .i64 a, .int .i64 b], .agg #[.int .i64 r, .int .i64 t]] w fun e w' => e = .returned (.bool (decide (pb (a, b) (r, t)))) ∧ ∃ q os', w' = Sort.grow (w.drewN q) os' := by
  obtain ⟨w1, hw1⟩ : ∃ w1, w1 = (w.alloc (.cells #[.int .i64 a, .int .i64 b] 37)).alloc (.cells #[.int .i64 r, .int .i64 t] 37) := ⟨_, rfl⟩
  have HG : Hid (∃ q os', w1 = Sort.grow (w.drewN q) os') := Lib.hid ⟨0, _, by rw [hw1, Sort.alloc_eq_grow, Sort.alloc_eq_grow, Sort.grow_grow]; rfl⟩
  have u0 : w1.cell? ⟨w.heap.size, 0, none⟩ = some (.int .i64 a) := by rw [hw1]; simp
  have u1 : w1.cell? ⟨w.heap.size, 1, none⟩ = some (.int .i64 b) := by rw [hw1]; simp
  have v0 : w1.cell? ⟨w.heap.size + 1, 0, none⟩ = some (.int .i64 r) := by rw [hw1]; simp
  have v1 : w1.cell? ⟨w.heap.size + 1, 1, none⟩ = some (.int .i64 t) := by rw [hw1]; simp
  have hw' := hw1.symm
  clear hw1
  by_cases h1 : a < r
  · have e : decide (pb (a, b) (r, t)) = true := decide_eq_true (.inl h1)
    rw [e]
    go_enter Tryz.func67, Tryz.ntmps67
    go_wp2
    go_ret
    exact ⟨rfl, HG.out⟩
  · by_cases h2 : a = r
    · subst h2
      by_cases h3 : b < t
      · have e : decide (pb (a, b) (a, t)) = true := decide_eq_true (.inr ⟨rfl, h3⟩)
        rw [e]
        go_enter Tryz.func67, Tryz.ntmps67
        go_wp2
        go_ret
        exact ⟨rfl, HG.out⟩
      · have e : decide (pb (a, b) (a, t)) = false := decide_eq_false (by unfold pb; simp; omega)
        rw [e]
        go_enter Tryz.func67, Tryz.ntmps67
        go_wp2
        go_ret
        exact ⟨rfl, HG.out⟩
    · have e : decide (pb (a, b) (r, t)) = false := decide_eq_false (by unfold pb; simp; omega)
      rw [e]
      go_enter Tryz.func67, Tryz.ntmps67
      go_wp2
      go_ret
      exact ⟨rfl, HG.out⟩
def RGetRel (w1 : World) (L : Cn) (p : Int × Int) (i : Value) (wr : World) : Prop := ∃ k n : Nat, i = .int .i64 (k : Int) ∧ k ≤ L.length ∧ getC L p = getC (L.drop k) p ∧ wr = w1.drewN n
def GetRet (w : World) (c : Int) (p q : Int) (e : Ending) (w' : World) : Prop := e = .returned (.int .i64 c) ∧ ∃ n, w' = (w.alloc (.cells #[.int .i64 p, .int .i64 q] 37)).drewN n
set_option maxRecDepth 100000 in
set_option maxHeartbeats 2000000 in
theorem rget_any (base K : Nat) (v u : Value) (L : Cn) (p q : Int) (w : World) (h : Rct w base K v u L) (hl : L.length ≤ 1000000) :
    Calls Tryz.prog 36 #[.pointer (some ⟨K, 0, none⟩), .agg #[.int .i64 p, .int .i64 q]] w fun e w' => GetRet w (getC L (p, q)) p q e w' := by
  obtain ⟨w1, hw1⟩ : ∃ w1, w1 = w.alloc (.cells #[.int .i64 p, .int .i64 q] 37) := ⟨_, rfl⟩
  have h1 : Rct w1 base K v u L := by rw [hw1]; exact h.alloc _
  have b0 : w1.cell? ⟨w.heap.size, 0, none⟩ = some (.int .i64 p) := by rw [hw1]; simp
  have b1 : w1.cell? ⟨w.heap.size, 1, none⟩ = some (.int .i64 q) := by rw [hw1]; simp
  have hw' := hw1.symm
  have HW := Lib.hid hw1
  have H1 := Lib.hid h1
  obtain ⟨N, hN⟩ : ∃ N, L.length = N := ⟨_, rfl⟩
  have HN := Lib.hid hN
  obtain ⟨a1, cp1, hv, _⟩ := h1.keys.form
  obtain ⟨a2, cp2, hu, _⟩ := h1.vals.form
  rw [keysC_len, hN] at hv
  rw [valsC_len, hN] at hu
  subst hv
  subst hu
  clear h h1 hw1
  rw [hN] at hl
  clear hN
  go_enter Tryz.func36, Tryz.ntmps36
  go_wp2
  clear hw'
  go_loopw [5] (fun i wr => RGetRel w1 L (p, q) i wr) (fun i _ => N + 1 - (intOf i).toNat)
  case atStart => exact ⟨0, 0, rfl, Nat.zero_le _, rfl, rfl⟩
  case round =>
    obtain ⟨k, n, rfl, hk, hrest, hwr⟩ := hrel
    have HWR := Lib.hid hwr
    have HR := Lib.hid hrest
    rw [HN.out] at hk
    have H2 : Hid (Rct wr base K (.slice a1 N cp1) (.slice a2 N cp2) L) := Lib.hid (by rw [hwr]; exact H1.out.drewN n)
    have g0 : wr.cell? ⟨w.heap.size, 0, none⟩ = some (.int .i64 p) := by rw [hwr]; exact b0
    have g1 : wr.cell? ⟨w.heap.size, 1, none⟩ = some (.int .i64 q) := by rw [hwr]; exact b1
    obtain ⟨c0, c1, _, _⟩ := drcell H2.out.cells
    clear hwr hrest
    by_cases hgo : k < N
    · have hkL : k < L.length := by rw [HN.out]; exact hgo
      have hkI : (k : Int) < (N : Int) := by omega
      obtain ⟨ga, ca, gb, cb, ea, eb, x0, x1, y0⟩ := H2.out.at hkL
      obtain ⟨rfl, _, _⟩ := Value.slice.inj ea
      obtain ⟨rfl, _, _⟩ := Value.slice.inj eb
      have hd : L.drop k = L[k] :: L.drop (k + 1) := List.drop_eq_getElem_cons hkL
      have hgt : getC (L.drop k) (p, q) = if L[k].1 = (p, q) then L[k].2 else getC (L.drop (k + 1)) (p, q) := by rw [hd]; rfl
      have HGT := Lib.hid hgt
      clear ea eb hd hgt
      obtain ⟨z0, z1, zc, hz⟩ : ∃ z0 z1 zc, L[k] = ((z0, z1), zc) := ⟨_, _, _, rfl⟩
      rw [hz] at x0 x1 y0 HGT
      simp only at x0 x1 y0 HGT
      have HZ := Lib.hid hz
      clear hz
      by_cases hpq : (z0, z1) = (p, q)
      · have e0 : z0 = p := congrArg Prod.fst hpq
        have e1 : z1 = q := congrArg Prod.snd hpq
        subst e0
        subst e1
        have HC : Hid (getC L (z0, z1) = zc) := Lib.hid (by rw [HR.out, HGT.out, if_pos rfl])
        clear hpq HGT
        go_wp2_with fail
        go_quiet (fail)
        go_wp2
        go_ret
        exact ⟨by rw [HC.out]; rfl, n + nq, by rw [HWR.out, HW.out, World.drewN_drewN]⟩
      · have hno := dpair_eql_no hpq
        have HC : Hid (getC L (p, q) = getC (L.drop (k + 1)) (p, q)) := Lib.hid (by rw [HR.out, HGT.out, if_neg hpq])
        clear hpq HGT
        go_wp2_with fail
        go_quiet (fail)
        go_wp2
        go_roundw
        case rel => exact ⟨k + 1, n + nq, by simp, by rw [HN.out]; omega, HC.out, by rw [HWR.out, World.drewN_drewN]⟩
        case measure => simp [intOf]; omega
    · have hkI : ¬ (k : Int) < (N : Int) := by omega
      have HC : Hid (getC L (p, q) = 0) := Lib.hid (by rw [HR.out, List.drop_of_length_le (by rw [HN.out]; omega)]; rfl)
      go_wp2
      go_ret
      exact ⟨by rw [HC.out]; rfl, n, by rw [HWR.out, HW.out]⟩
end Go.Proofs.YtejcemmhhpbchaaGreat
/- What the document's set leans on. -/
namespace Go.Proofs.YtejcemmhhpbchaaGreat
open Go.RowKit Go.Maps
open Go.Sort (grow heap_grow_old)

set_option maxRecDepth 100000 in
theorem dgrown_below (w : World) (n : Nat) (os : Array Obj) : Below w.heap.size w (grow (w.drewN n) os) := ⟨rfl, rfl, rfl, by simp [World.drewN], fun k hk => heap_grow_old _ _ hk⟩
/-! Two rows of different kinds. -/
set_option maxRecDepth 100000 in
theorem down_ints {W w2 : World} {b : Nat} {vp vc : Value} {P : List (Int × Int)} {C : List Int} (hp : ownE pairE W b vp P) (hc : ownE intE W b vc C) (hg : W.grownBy w2 vp.ownBlock) : ownE intE w2 b vc C :=
  hc.kept fun g hgo => hg.block g (hc.lt g hgo).2 fun e => by
    obtain ⟨cs, h1⟩ := hp.block g e.symm
    obtain ⟨cs2, h2⟩ := hc.block g hgo
    rw [h1] at h2
    have := congrArg (fun o => match o with | some (Obj.cells _ t _) => t | _ => 0) h2
    simp [pairE, intE] at this
set_option maxRecDepth 100000 in
theorem down_pairs {W w2 : World} {b : Nat} {vp vc : Value} {P : List (Int × Int)} {C : List Int} (hp : ownE pairE W b vp P) (hc : ownE intE W b vc C) (hg : W.grownBy w2 vc.ownBlock) : ownE pairE w2 b vp P :=
  hp.kept fun g hgo => hg.block g (hp.lt g hgo).2 fun e => by
    obtain ⟨cs, h1⟩ := hc.block g e.symm
    obtain ⟨cs2, h2⟩ := hp.block g hgo
    rw [h1] at h2
    have := congrArg (fun o => match o with | some (Obj.cells _ t _) => t | _ => 0) h2
    simp [pairE, intE] at this
set_option maxRecDepth 100000 in
/-- A literal of one element is not the row that grows. -/
theorem dlit_kept {α : Type} {R : Elt α} {wr W w2 : World} {b N : Nat} {v : Value} {x : α} {β : Type} {R2 : Elt β} {A : List β} (h : eltsAt R W (.slice (some ⟨N, 0, none⟩) 1 1) [x]) (ho : ownE R2 wr b v A) (hN : wr.heap.size ≤ N) (hNW : N < W.heap.size) (hg : W.grownBy w2 v.ownBlock) : eltsAt R w2 (.slice (some ⟨N, 0, none⟩) 1 1) [x] :=
  h.kept hg.size fun a n c e => by
    cases e
    exact hg.block N hNW fun e => by have := (ho.lt N e.symm).2; omega
set_option maxRecDepth 100000 in
theorem dbelow_own2 {α : Type} {R : Elt α} {w5 W w2 : World} {v : Value} {A : List α} (h : Below w5.heap.size w5 W) (hg : W.grownBy w2 v.ownBlock) (ho : ownE R W w5.heap.size v A) : Below w5.heap.size w5 w2 := h.grown hg h.size fun k e => (ho.lt k e).1
abbrev At5 (W : World) (K g1 g2 k : Nat) (v u : Value) (x0 x1 c : Int) : Prop :=
  W.cell? ⟨K, 0, none⟩ = some v ∧ W.cell? ⟨K, 1, none⟩ = some u ∧ W.cell? ⟨g1, k * 2, none⟩ = some (.int .i64 x0) ∧ W.cell? ⟨g1, k * 2 + 1, none⟩ = some (.int .i64 x1) ∧ W.cell? ⟨g2, k, none⟩ = some (.int .i64 c)
/-- So far: k places are looked at, O is laid, d: the pair is laid. -/
structure SInv (L : Cn) (p : Int × Int) (n : Int) (k : Nat) (O : Cn) (d : Bool) : Prop where
  le : k ≤ L.length + 1
  last : k ≤ L.length ∨ d = true
  size : O.length ≤ k + (bif d then 1 else 0)
  rest : O ++ (bif d then delC (L.drop k) p else insC p n (L.drop k)) = setC L p n
set_option maxRecDepth 100000 in
theorem SInv.start (L : Cn) (p : Int × Int) (n : Int) : SInv L p n 0 [] (decide (n = 0)) := by
  refine ⟨by omega, .inl (by omega), by simp, ?_⟩
  unfold setC
  by_cases h : n = 0 <;> simp [h]
set_option maxRecDepth 100000 in
theorem del_cons (x : (Int × Int) × Int) (r : Cn) (p : Int × Int) : delC (x :: r) p = if x.1 = p then delC r p else x :: delC r p := by
  unfold delC
  by_cases e : x.1 = p
  · rw [if_pos e, List.filter_cons_of_neg (by simp [e])]
  · rw [if_neg e, List.filter_cons_of_pos (by simp [e])]
variable {L : Cn} {p : Int × Int} {n : Int} {k : Nat} {O : Cn}
set_option maxRecDepth 100000 in
theorem SInv.s1 (h : SInv L p n k O true) (hk : k = L.length) : SInv L p n (k + 1) O true :=
  ⟨by omega, .inr rfl, by have := h.size; simp at this ⊢; omega, by
    have := h.rest
    rw [List.drop_of_length_le (by omega)] at this ⊢
    exact this⟩
set_option maxRecDepth 100000 in
theorem SInv.s2 (h : SInv L p n k O false) (hk : k = L.length) : SInv L p n (k + 1) (O ++ [(p, n)]) true :=
  ⟨by omega, .inr rfl, by have := h.size; simp at this ⊢; omega, by
    have := h.rest
    rw [List.drop_of_length_le (by omega)] at this ⊢
    simpa [insC, delC] using this⟩
set_option maxRecDepth 100000 in
theorem SInv.s3 (h : SInv L p n k O true) (hk : k < L.length) (e : L[k].1 = p) : SInv L p n (k + 1) O true :=
  ⟨by omega, .inr rfl, by have := h.size; simp at this ⊢; omega, by
    have := h.rest
    rw [List.drop_eq_getElem_cons hk, cond_true, del_cons, if_pos e] at this
    exact this⟩
set_option maxRecDepth 100000 in
theorem SInv.s4 (h : SInv L p n k O true) (hk : k < L.length) (e : ¬ L[k].1 = p) : SInv L p n (k + 1) (O ++ [L[k]]) true :=
  ⟨by omega, .inr rfl, by have := h.size; simp at this ⊢; omega, by
    have := h.rest
    rw [List.drop_eq_getElem_cons hk, cond_true, del_cons, if_neg e] at this
    simpa using this⟩
set_option maxRecDepth 100000 in
theorem SInv.s5 (h : SInv L p n k O false) (hk : k < L.length) (e : pb L[k].1 p) : SInv L p n (k + 1) (O ++ [L[k]]) false :=
  ⟨by omega, .inl hk, by have := h.size; simp at this ⊢; omega, by
    have := h.rest
    rw [List.drop_eq_getElem_cons hk, cond_false, insC, if_pos e] at this
    simpa using this⟩
set_option maxRecDepth 100000 in
theorem SInv.s6 (h : SInv L p n k O false) (hk : k < L.length) (hb : ¬ pb L[k].1 p) (e : L[k].1 = p) : SInv L p n (k + 1) (O ++ [(p, n)]) true :=
  ⟨by omega, .inr rfl, by have := h.size; simp at this ⊢; omega, by
    have := h.rest
    rw [List.drop_eq_getElem_cons hk, cond_false, insC, if_neg hb, del_cons, if_pos e] at this
    simpa using this⟩
set_option maxRecDepth 100000 in
theorem SInv.s7 (h : SInv L p n k O false) (hk : k < L.length) (hb : ¬ pb L[k].1 p) (e : ¬ L[k].1 = p) : SInv L p n (k + 1) (O ++ [(p, n)] ++ [L[k]]) true :=
  ⟨by omega, .inr rfl, by have := h.size; simp at this ⊢; omega, by
    have := h.rest
    rw [List.drop_eq_getElem_cons hk, cond_false, insC, if_neg hb, del_cons, if_neg e] at this
    simpa using this⟩
set_option maxRecDepth 100000 in
theorem keys_snoc (O : Cn) (x0 x1 c : Int) : keysC (O ++ [((x0, x1), c)]) = keysC O ++ [(x0, x1)] := by simp [keysC]
set_option maxRecDepth 100000 in
theorem vals_snoc (O : Cn) (x : Int × Int) (c : Int) : valsC (O ++ [(x, c)]) = valsC O ++ [c] := by simp [valsC]
end Go.Proofs.YtejcemmhhpbchaaGreat
/- The document's set. -/
namespace Go.Proofs.YtejcemmhhpbchaaGreat
open Go.RowKit Go.Maps
open Go.Sort (grow)

def RSetRel (w0 : World) (L : Cn) (p : Int × Int) (n : Int) (out m done i : Value) (wr : World) : Prop :=
  ∃ (k : Nat) (O : Cn) (d : Bool), i = .int .i64 (k : Int) ∧ done = .bool d ∧ ownE pairE wr w0.heap.size out (keysC O) ∧ ownE intE wr w0.heap.size m (valsC O) ∧ Below w0.heap.size w0 wr ∧ SInv L p n k O d
/-- What the document's set leaves: its own block alone is written over. -/
def RSRet (base K : Nat) (L : Cn) (w w' : World) : Prop := ∃ v' u', Rct w' base K v' u' L ∧ Kept (fun k => k = K) w w'
set_option maxRecDepth 100000 in
theorem rset_end {w w0 wr : World} {base K : Nat} {v u out m : Value} {M : Cn} (hw : Below w.heap.size w w0) (hK : K < w.heap.size) (hge : base ≤ K) (hj : Below w0.heap.size w0 wr) (hc : wr.heap[K]? = some (.cells #[v, u] 45 (0, 0))) (ho : ownE pairE wr w0.heap.size out (keysC M)) (hm : ownE intE wr w0.heap.size m (valsC M)) :
    RSRet base K M w ((wr.setCell ⟨K, 0, none⟩ out).setCell ⟨K, 1, none⟩ m) := by
  have hs := hw.size
  have h1 := heap_setCell_at (i := 0) hc out
  have h2 := heap_setCell_at (i := 1) h1 m
  refine ⟨out, m, ⟨h2, hge, (ho.kept fun g hg => ?_).mono (by omega), (hm.kept fun g hg => ?_).mono (by omega)⟩, ?_⟩
  · have := (ho.lt g hg).1
    rw [Below.heap_setCell _ _ _ _ (show g ≠ K by omega), Below.heap_setCell _ _ _ _ (show g ≠ K by omega)]
  · have := (hm.lt g hg).1
    rw [Below.heap_setCell _ _ _ _ (show g ≠ K by omega), Below.heap_setCell _ _ _ _ (show g ≠ K by omega)]
  · have hall : Below w.heap.size w wr := hw.trans (hj.mono hs)
    exact ((Kept.of_below (S := fun k => k = K) hall (Nat.le_refl _)).setCell _ _ fun _ => rfl).setCell _ _ fun _ => rfl
set_option maxRecDepth 100000 in
set_option maxHeartbeats 8000000 in
theorem rset_any (base K : Nat) (v u : Value) (L : Cn) (p q n : Int) (w : World) (h : Rct w base K v u L) (hl : L.length ≤ 1000) :
    Calls Tryz.prog 54 #[.pointer (some ⟨K, 0, none⟩), .agg #[.int .i64 p, .int .i64 q], .int .i64 n] w fun e w' => e = .returned (.tuple #[]) ∧ RSRet base K (setC L (p, q) n) w w' := by
  obtain ⟨w0, hw0⟩ : ∃ w0, w0 = w.alloc (.cells #[.int .i64 p, .int .i64 q] 37) := ⟨_, rfl⟩
  have hs0 : w0.heap.size = w.heap.size + 1 := by rw [hw0]; simp
  have HB0 : Hid (Below w.heap.size w w0) := Lib.hid (by rw [hw0]; exact (Below.refl _ w).alloc (Nat.le_refl _) _)
  have HKEY : Hid (∀ W, Below w0.heap.size w0 W → Rct W base K v u L) := Lib.hid (fun W hW => (h.below HB0.out).below hW)
  have b0 : w0.cell? ⟨w.heap.size, 0, none⟩ = some (.int .i64 p) := by rw [hw0]; simp
  have b1 : w0.cell? ⟨w.heap.size, 1, none⟩ = some (.int .i64 q) := by rw [hw0]; simp
  have HBX : Hid (∀ W, Below w0.heap.size w0 W → W.cell? ⟨w.heap.size, 0, none⟩ = some (.int .i64 p) ∧ W.cell? ⟨w.heap.size, 1, none⟩ = some (.int .i64 q)) := Lib.hid (fun W hW => ⟨(hW.cell (by show w.heap.size < _; omega)).trans b0, (hW.cell (by show w.heap.size < _; omega)).trans b1⟩)
  have HKL : Hid (K < w.heap.size ∧ base ≤ K) := Lib.hid ⟨(h.lt K (.inl rfl)).2, h.ge⟩
  obtain ⟨N, hN⟩ : ∃ N, L.length = N := ⟨_, rfl⟩
  have HN := Lib.hid hN
  obtain ⟨a1, cp1, hv, _⟩ := h.keys.form
  obtain ⟨a2, cp2, hu, _⟩ := h.vals.form
  rw [keysC_len, hN] at hv
  rw [valsC_len, hN] at hu
  subst hv
  subst hu
  rw [hN] at hl
  have hw' := hw0.symm
  have hmixed : Tryz.prog.follows .mixedOrders = true := by kernel_rfl
  clear h hw0 b0 b1 hN hs0
  go_enter Tryz.func54, Tryz.ntmps54
  go_wp2
  clear hw'
  obtain ⟨bx, hbx⟩ : ∃ bx, bx = w.heap.size := ⟨_, rfl⟩
  rw [← hbx]
  rw [← hbx] at HBX
  have HBXE := Lib.hid hbx
  clear hbx
  go_loopw [6, 7, 8, 9] (fun a b c i wr => RSetRel w0 L (p, q) n a b c i wr) (fun _ _ _ i _ => N + 2 - (intOf i).toNat)
  case atStart => exact ⟨0, [], _, rfl, rfl, ownE.nil _ _, ownE.nil _ _, Below.refl _ _, SInv.start L (p, q) n⟩
  case round =>
    obtain ⟨k, O, d, rfl, rfl, hop, hoc, hbj, hinv⟩ := hrel
    have HOwr := Lib.hid hop; have HCwr := Lib.hid hoc; have HJwr := Lib.hid hbj; have HIN := Lib.hid hinv
    have hkN : k ≤ N + 1 := by have := hinv.le; rw [HN.out] at this; exact this
    have hlast : k ≤ N ∨ d = true := by have := hinv.last; rw [HN.out] at this; exact this
    have hO : O.length ≤ k + 1 := by have := hinv.size; cases d <;> simp at this <;> omega
    clear hop hoc hbj hinv
    by_cases hle : k ≤ N
    · have hleI : (k : Int) ≤ (N : Int) := by omega
      obtain ⟨P0, hP0⟩ : ∃ P0, P0 = keysC O := ⟨_, rfl⟩
      obtain ⟨C0, hC0⟩ : ∃ C0, C0 = valsC O := ⟨_, rfl⟩
      rw [← hP0] at HOwr
      rw [← hC0] at HCwr
      have HPl : Hid (P0.length ≤ 2000) := Lib.hid (by rw [hP0, keysC_len]; omega)
      have HCl : Hid (C0.length ≤ 2000) := Lib.hid (by rw [hC0, valsC_len]; omega)
      have HPC := Lib.hid (And.intro hP0 hC0)
      clear hP0 hC0 hlast hO hkN
      by_cases hgo : k < N
      · have hgoI : (k : Int) < (N : Int) := by omega
        have hk0 : (0 : Int) ≤ (k : Int) := by omega
        have hgoB : decide ((k : Int) < (N : Int)) = true := decide_eq_true hgoI
        have hgoN : decide (k < N) = true := decide_eq_true hgo
        have hneB : ((k : Int) == (N : Int)) = false := by simp; omega
        have hneN : (k == N) = false := by simp; omega
        have hkL : k < L.length := by rw [HN.out]; exact hgo
        have HKLL := Lib.hid hkL
        obtain ⟨ga, ca, gb, cb, ea, eb, t0, t1, t2⟩ := (HKEY.out wr HJwr.out).at hkL
        obtain ⟨rfl, ex1, ex2⟩ := Value.slice.inj ea
        obtain ⟨rfl, ex3, ex4⟩ := Value.slice.inj eb
        clear ex1 ex2 ex3 ex4
        obtain ⟨z0, z1, zc, hz⟩ : ∃ z0 z1 zc, L[k] = ((z0, z1), zc) := ⟨_, _, _, rfl⟩
        have HA : Hid (∀ W, Below w0.heap.size w0 W → At5 W K ga gb k (.slice (some ⟨ga, 0, none⟩) N cp1) (.slice (some ⟨gb, 0, none⟩) N cp2) z0 z1 zc) := Lib.hid (fun W hW => by
          have hR := HKEY.out W hW
          obtain ⟨r0, r1, _, _⟩ := drcell hR.cells
          obtain ⟨ga', ca', gb', cb', ea', eb', t0, t1, t2⟩ := hR.at hkL
          obtain ⟨e1, _, _⟩ := Value.slice.inj ea'
          obtain ⟨e2, _, _⟩ := Value.slice.inj eb'
          cases e1
          cases e2
          exact ⟨r0, r1, t0.trans (congrArg (fun y : (Int × Int) × Int => some (Value.int .i64 y.1.1)) hz), t1.trans (congrArg (fun y : (Int × Int) × Int => some (Value.int .i64 y.1.2)) hz), t2.trans (congrArg (fun y : (Int × Int) × Int => some (Value.int .i64 y.2)) hz)⟩)
        have HZ := Lib.hid hz
        clear ea eb hz t0 t1 t2 hkL
        cases d with
        | true =>
          obtain ⟨ka0, ka1, xa0, xa1, ya0⟩ := HA.out wr HJwr.out
          obtain ⟨qa0, qa1⟩ := HBX.out wr HJwr.out
          go_wp2_with fail
          go_quiet (fail)
          have HJwq : Hid (Below w0.heap.size w0 (wr.drewN nq)) := Lib.hid (below_drewN' HJwr.out _)
          have HOwq : Hid (ownE pairE (wr.drewN nq) w0.heap.size u6 P0) := Lib.hid (HOwr.out.drewN _)
          have HCwq : Hid (ownE intE (wr.drewN nq) w0.heap.size u7 C0) := Lib.hid (HCwr.out.drewN _)
          clear ka0 ka1 xa0 xa1 ya0 qa0 qa1
          generalize wr.drewN nq = wq at *
          obtain ⟨kb0, kb1, xb0, xb1, yb0⟩ := HA.out wq HJwq.out
          obtain ⟨qb0, qb1⟩ := HBX.out wq HJwq.out
          by_cases hpq : (z0, z1) = (p, q)
          · have e0 : z0 = p := congrArg Prod.fst hpq
            have e1 : z1 = q := congrArg Prod.snd hpq
            have HPQ := Lib.hid hpq
            subst e0
            subst e1
            have hne := pair_neq_no z0 z1
            clear hpq
            go_wp2_with fail
            go_quiet (fail)
            have HJwy : Hid (Below w0.heap.size w0 (wq.drewN nq)) := Lib.hid (below_drewN' HJwq.out _)
            have HOwy : Hid (ownE pairE (wq.drewN nq) w0.heap.size u6 P0) := Lib.hid (HOwq.out.drewN _)
            have HCwy : Hid (ownE intE (wq.drewN nq) w0.heap.size u7 C0) := Lib.hid (HCwq.out.drewN _)
            clear kb0 kb1 xb0 xb1 yb0 qb0 qb1
            generalize wq.drewN nq = wy at *
            go_wp2
            go_roundw
            case measure => simp [intOf] <;> omega
            case rel => exact ⟨k + 1, O, true, by simp, rfl, by rw [← HPC.out.1]; exact HOwy.out, by rw [← HPC.out.2]; exact HCwy.out, HJwy.out, HIN.out.s3 HKLL.out (congrArg Prod.fst HZ.out)⟩
          · have hne := pair_neq_yes hpq
            have HPQ := Lib.hid hpq
            clear hpq
            go_wp2_with fail
            go_quiet (fail)
            have HJwy : Hid (Below w0.heap.size w0 (wq.drewN nq)) := Lib.hid (below_drewN' HJwq.out _)
            have HOwy : Hid (ownE pairE (wq.drewN nq) w0.heap.size u6 P0) := Lib.hid (HOwq.out.drewN _)
            have HCwy : Hid (ownE intE (wq.drewN nq) w0.heap.size u7 C0) := Lib.hid (HCwq.out.drewN _)
            clear kb0 kb1 xb0 xb1 yb0 qb0 qb1
            generalize wq.drewN nq = wy at *
            clear hne
            have bz := Below.refl wy.heap.size wy
            have G1 : Hid (Below wy.heap.size wy (wy.alloc (.cells #[.int .i64 z0, .int .i64 z1] 37)).drew) := Lib.hid (bz.alloc (Nat.le_refl _) _).drew
            have G6 : Hid (Below wy.heap.size wy (wy.alloc (.cells #[.int .i64 zc] 3)).drew) := Lib.hid (bz.alloc (Nat.le_refl _) _).drew
            have G2 : Hid (Below wy.heap.size wy ((wy.alloc (.cells #[.int .i64 z0, .int .i64 z1] 37)).alloc (.cells #[.int .i64 zc] 3)).drew) := Lib.hid ((bz.alloc (Nat.le_refl _) _).alloc (by simp) _).drew
            have G4 : Hid (Below wy.heap.size wy ((wy.alloc (.cells #[.int .i64 zc] 3)).alloc (.cells #[.int .i64 z0, .int .i64 z1] 37)).drew) := Lib.hid ((bz.alloc (Nat.le_refl _) _).alloc (by simp) _).drew
            have LA1 : Hid (eltsAt pairE (wy.alloc (.cells #[.int .i64 z0, .int .i64 z1] 37)).drew (.slice (some ⟨wy.heap.size, 0, none⟩) 1 1) [(z0, z1)]) := Lib.hid ((one_elt pairE wy (z0, z1)).drew 1)
            have LB6 : Hid (eltsAt intE (wy.alloc (.cells #[.int .i64 zc] 3)).drew (.slice (some ⟨wy.heap.size, 0, none⟩) 1 1) [zc]) := Lib.hid ((one_elt intE wy zc).drew 1)
            have LA2 : Hid (eltsAt pairE ((wy.alloc (.cells #[.int .i64 z0, .int .i64 z1] 37)).alloc (.cells #[.int .i64 zc] 3)).drew (.slice (some ⟨wy.heap.size, 0, none⟩) 1 1) [(z0, z1)]) := Lib.hid (((one_elt pairE wy (z0, z1)).below ((Below.refl _ _).alloc (Nat.le_refl _) _) (Nat.le_refl _)).drew 1)
            have LB2 : Hid (eltsAt intE ((wy.alloc (.cells #[.int .i64 z0, .int .i64 z1] 37)).alloc (.cells #[.int .i64 zc] 3)).drew (.slice (some ⟨wy.heap.size + 1, 0, none⟩) 1 1) [zc]) := Lib.hid (by
              have := (one_elt intE (wy.alloc (.cells #[.int .i64 z0, .int .i64 z1] 37)) zc).drew 1
              rwa [World.size_alloc] at this)
            have LB4 : Hid (eltsAt intE ((wy.alloc (.cells #[.int .i64 zc] 3)).alloc (.cells #[.int .i64 z0, .int .i64 z1] 37)).drew (.slice (some ⟨wy.heap.size, 0, none⟩) 1 1) [zc]) := Lib.hid (((one_elt intE wy zc).below ((Below.refl _ _).alloc (Nat.le_refl _) _) (Nat.le_refl _)).drew 1)
            have LA4 : Hid (eltsAt pairE ((wy.alloc (.cells #[.int .i64 zc] 3)).alloc (.cells #[.int .i64 z0, .int .i64 z1] 37)).drew (.slice (some ⟨wy.heap.size + 1, 0, none⟩) 1 1) [(z0, z1)]) := Lib.hid (by
              have := (one_elt pairE (wy.alloc (.cells #[.int .i64 zc] 3)) (z0, z1)).drew 1
              rwa [World.size_alloc] at this)
            have HSZ : Hid (w0.heap.size ≤ wy.heap.size) := Lib.hid HJwy.out.size
            have OP1 := Lib.hid (HOwy.out.below G1.out)
            have OC1 := Lib.hid (HCwy.out.below G1.out)
            have SZ1 := Lib.hid (Nat.le_trans HSZ.out G1.out.size)
            have BJ1 := Lib.hid (HJwy.out.trans (G1.out.mono HSZ.out))
            have HX1 := Lib.hid (HA.out _ BJ1.out)
            have OP2 := Lib.hid (HOwy.out.below G2.out)
            have OC2 := Lib.hid (HCwy.out.below G2.out)
            have SZ2 := Lib.hid (Nat.le_trans HSZ.out G2.out.size)
            have BJ2 := Lib.hid (HJwy.out.trans (G2.out.mono HSZ.out))
            have HX2 := Lib.hid (HA.out _ BJ2.out)
            have OP4 := Lib.hid (HOwy.out.below G4.out)
            have OC4 := Lib.hid (HCwy.out.below G4.out)
            have SZ4 := Lib.hid (Nat.le_trans HSZ.out G4.out.size)
            have BJ4 := Lib.hid (HJwy.out.trans (G4.out.mono HSZ.out))
            have HX4 := Lib.hid (HA.out _ BJ4.out)
            have OP6 := Lib.hid (HOwy.out.below G6.out)
            have OC6 := Lib.hid (HCwy.out.below G6.out)
            have SZ6 := Lib.hid (Nat.le_trans HSZ.out G6.out.size)
            have BJ6 := Lib.hid (HJwy.out.trans (G6.out.mono HSZ.out))
            have HX6 := Lib.hid (HA.out _ BJ6.out)
            have HX0 := Lib.hid (HA.out wy HJwy.out)
            clear bz
            go_wp2_with fail
            go_region_held3 (fun w' => At5 w' K ga gb k (.slice (some ⟨ga, 0, none⟩) N cp1) (.slice (some ⟨gb, 0, none⟩) N cp2) z0 z1 zc)
              (first | with_reducible exact HX0.out | with_reducible exact HX1.out | with_reducible exact HX6.out | with_reducible exact HX2.out | with_reducible exact HX4.out | with_reducible exact XA.out | with_reducible exact XB.out | with_reducible exact XC.out | exact HX0.out | exact trivial) (first
              | (refine step_append_elts intE rfl (.tmp 80) (.tmp 88) rfl w0.heap.size u7 _ C0 [zc] rfl rfl HQC.out HQB.out (someNone _ _ _) (by have := HCl.out; simp only [List.length_singleton]; omega) HQJ.out.size ?_
                 intro r3 w3 ho3 hg3 _
                 have HP3 : Hid (ownE pairE w3 w0.heap.size r2 (P0 ++ [(z0, z1)])) := Lib.hid (down_pairs HQP.out HQC.out hg3)
                 have HC3 : Hid (ownE intE w3 w0.heap.size r3 (C0 ++ [zc])) := Lib.hid ho3
                 have HJ3 : Hid (Below w0.heap.size w0 w3) := Lib.hid (dbelow_own2 HQJ.out hg3 HQC.out)
                 have XC := Lib.hid (HA.out w3 HJ3.out)
                 clear ho3 hg3)
              | (refine step_append_elts pairE rfl (.tmp 70) (.tmp 78) rfl w0.heap.size u6 _ P0 [(z0, z1)] rfl rfl HRP.out HRA.out (someNone _ _ _) (by have := HPl.out; simp only [List.length_singleton]; omega) HRJ.out.size ?_
                 intro r3 w3 ho3 hg3 _
                 have HC3 : Hid (ownE intE w3 w0.heap.size r2 (C0 ++ [zc])) := Lib.hid (down_ints HRP.out HRC.out hg3)
                 have HP3 : Hid (ownE pairE w3 w0.heap.size r3 (P0 ++ [(z0, z1)])) := Lib.hid ho3
                 have HJ3 : Hid (Below w0.heap.size w0 w3) := Lib.hid (dbelow_own2 HRJ.out hg3 HRP.out)
                 have XC := Lib.hid (HA.out w3 HJ3.out)
                 clear ho3 hg3)
              | (refine step_append_elts pairE rfl (.tmp 70) (.tmp 78) rfl w0.heap.size u6 (.slice (some ⟨wy.heap.size + 1, 0, none⟩) 1 1) P0 [(z0, z1)] rfl rfl (by with_reducible exact OP4.out) (by with_reducible exact LA4.out) (someNone _ _ _) (by have := HPl.out; simp only [List.length_singleton]; omega) (by with_reducible exact SZ4.out) ?_
                 intro r2 w2 ho2 hg2 _
                 have HQP0 : Hid (ownE pairE w2 w0.heap.size r2 (P0 ++ [(z0, z1)])) := Lib.hid ho2
                 have HQC0 := Lib.hid (down_ints OP4.out OC4.out hg2)
                 have HJ2 : Hid (Below w0.heap.size w0 w2) := Lib.hid (dbelow_own2 BJ4.out hg2 OP4.out)
                 have XA := Lib.hid (HA.out w2 HJ2.out)
                 have HQP := Lib.hid HQP0.out
                 have HQC := Lib.hid HQC0.out
                 have HQB := Lib.hid (dlit_kept LB4.out HOwy.out (by simp) (by simp <;> omega) hg2)
                 have HQJ := Lib.hid HJ2.out
                 clear ho2 hg2)
              | (refine step_append_elts pairE rfl (.tmp 70) (.tmp 78) rfl w0.heap.size u6 (.slice (some ⟨wy.heap.size, 0, none⟩) 1 1) P0 [(z0, z1)] rfl rfl (by with_reducible exact OP2.out) (by with_reducible exact LA2.out) (someNone _ _ _) (by have := HPl.out; simp only [List.length_singleton]; omega) (by with_reducible exact SZ2.out) ?_
                 intro r2 w2 ho2 hg2 _
                 have HQP0 : Hid (ownE pairE w2 w0.heap.size r2 (P0 ++ [(z0, z1)])) := Lib.hid ho2
                 have HQC0 := Lib.hid (down_ints OP2.out OC2.out hg2)
                 have HJ2 : Hid (Below w0.heap.size w0 w2) := Lib.hid (dbelow_own2 BJ2.out hg2 OP2.out)
                 have XA := Lib.hid (HA.out w2 HJ2.out)
                 have HQP := Lib.hid HQP0.out
                 have HQC := Lib.hid HQC0.out
                 have HQB := Lib.hid (dlit_kept LB2.out HOwy.out (by simp) (by simp <;> omega) hg2)
                 have HQJ := Lib.hid HJ2.out
                 clear ho2 hg2)
              | (refine step_append_elts pairE rfl (.tmp 70) (.tmp 78) rfl w0.heap.size u6 (.slice (some ⟨wy.heap.size, 0, none⟩) 1 1) P0 [(z0, z1)] rfl rfl (by with_reducible exact OP1.out) (by with_reducible exact LA1.out) (someNone _ _ _) (by have := HPl.out; simp only [List.length_singleton]; omega) (by with_reducible exact SZ1.out) ?_
                 intro r2 w2 ho2 hg2 _
                 have HQP0 : Hid (ownE pairE w2 w0.heap.size r2 (P0 ++ [(z0, z1)])) := Lib.hid ho2
                 have HQC0 := Lib.hid (down_ints OP1.out OC1.out hg2)
                 have HJ2 : Hid (Below w0.heap.size w0 w2) := Lib.hid (dbelow_own2 BJ1.out hg2 OP1.out)
                 have XA := Lib.hid (HA.out w2 HJ2.out)
                 have HQP := Lib.hid (HQP0.out.alloc (.cells #[.int .i64 zc] 3))
                 have HQC := Lib.hid (HQC0.out.alloc (.cells #[.int .i64 zc] 3))
                 have HQB : Hid (eltsAt intE (w2.alloc (.cells #[.int .i64 zc] 3)) (.slice (some ⟨w2.heap.size, 0, none⟩) 1 1) [zc]) := Lib.hid (one_elt intE w2 zc)
                 have HQJ := Lib.hid (HJ2.out.alloc HJ2.out.size (.cells #[.int .i64 zc] 3))
                 have XB := Lib.hid (HA.out _ HQJ.out)
                 clear ho2 hg2)
              | (refine step_append_elts intE rfl (.tmp 80) (.tmp 88) rfl w0.heap.size u7 (.slice (some ⟨wy.heap.size + 1, 0, none⟩) 1 1) C0 [zc] rfl rfl (by with_reducible exact OC2.out) (by with_reducible exact LB2.out) (someNone _ _ _) (by have := HCl.out; simp only [List.length_singleton]; omega) (by with_reducible exact SZ2.out) ?_
                 intro r2 w2 ho2 hg2 _
                 have HRC0 : Hid (ownE intE w2 w0.heap.size r2 (C0 ++ [zc])) := Lib.hid ho2
                 have HRP0 := Lib.hid (down_pairs OP2.out OC2.out hg2)
                 have HJ2 : Hid (Below w0.heap.size w0 w2) := Lib.hid (dbelow_own2 BJ2.out hg2 OC2.out)
                 have XA := Lib.hid (HA.out w2 HJ2.out)
                 have HRC := Lib.hid HRC0.out
                 have HRP := Lib.hid HRP0.out
                 have HRA := Lib.hid (dlit_kept LA2.out HCwy.out (by simp) (by simp <;> omega) hg2)
                 have HRJ := Lib.hid HJ2.out
                 clear ho2 hg2)
              | (refine step_append_elts intE rfl (.tmp 80) (.tmp 88) rfl w0.heap.size u7 (.slice (some ⟨wy.heap.size, 0, none⟩) 1 1) C0 [zc] rfl rfl (by with_reducible exact OC4.out) (by with_reducible exact LB4.out) (someNone _ _ _) (by have := HCl.out; simp only [List.length_singleton]; omega) (by with_reducible exact SZ4.out) ?_
                 intro r2 w2 ho2 hg2 _
                 have HRC0 : Hid (ownE intE w2 w0.heap.size r2 (C0 ++ [zc])) := Lib.hid ho2
                 have HRP0 := Lib.hid (down_pairs OP4.out OC4.out hg2)
                 have HJ2 : Hid (Below w0.heap.size w0 w2) := Lib.hid (dbelow_own2 BJ4.out hg2 OC4.out)
                 have XA := Lib.hid (HA.out w2 HJ2.out)
                 have HRC := Lib.hid HRC0.out
                 have HRP := Lib.hid HRP0.out
                 have HRA := Lib.hid (dlit_kept LA4.out HCwy.out (by simp) (by simp <;> omega) hg2)
                 have HRJ := Lib.hid HJ2.out
                 clear ho2 hg2)
              | (refine step_append_elts intE rfl (.tmp 80) (.tmp 88) rfl w0.heap.size u7 (.slice (some ⟨wy.heap.size, 0, none⟩) 1 1) C0 [zc] rfl rfl (by with_reducible exact OC6.out) (by with_reducible exact LB6.out) (someNone _ _ _) (by have := HCl.out; simp only [List.length_singleton]; omega) (by with_reducible exact SZ6.out) ?_
                 intro r2 w2 ho2 hg2 _
                 have HRC0 : Hid (ownE intE w2 w0.heap.size r2 (C0 ++ [zc])) := Lib.hid ho2
                 have HRP0 := Lib.hid (down_pairs OP6.out OC6.out hg2)
                 have HJ2 : Hid (Below w0.heap.size w0 w2) := Lib.hid (dbelow_own2 BJ6.out hg2 OC6.out)
                 have XA := Lib.hid (HA.out w2 HJ2.out)
                 have HRC := Lib.hid (HRC0.out.alloc (.cells #[.int .i64 z0, .int .i64 z1] 37))
                 have HRP := Lib.hid (HRP0.out.alloc (.cells #[.int .i64 z0, .int .i64 z1] 37))
                 have HRA : Hid (eltsAt pairE (w2.alloc (.cells #[.int .i64 z0, .int .i64 z1] 37)) (.slice (some ⟨w2.heap.size, 0, none⟩) 1 1) [(z0, z1)]) := Lib.hid (one_elt pairE w2 (z0, z1))
                 have HRJ := Lib.hid (HJ2.out.alloc HJ2.out.size (.cells #[.int .i64 z0, .int .i64 z1] 37))
                 have XB := Lib.hid (HA.out _ HRJ.out)
                 clear ho2 hg2))
            all_goals clear OP1 OP2 OP4 OP6 OC1 OC2 OC4 OC6 SZ1 SZ2 SZ4 SZ6 BJ1 BJ2 BJ4 BJ6 LA1 LA2 LA4 LB2 LB4 LB6 G1 G2 G4 G6 HX0 HX1 HX2 HX4 HX6
            all_goals go_wp2
            all_goals go_roundw
            all_goals try (case measure => simp [intOf] <;> omega)
            all_goals exact ⟨k + 1, O ++ [((z0, z1), zc)], true, by simp, rfl, by rw [keys_snoc, ← HPC.out.1]; exact HP3.out, by rw [vals_snoc, ← HPC.out.2]; exact HC3.out, HJ3.out, Eq.mp (congrArg (fun y : (Int × Int) × Int => SInv L (p, q) n (k + 1) (O ++ [y]) true) HZ.out) (HIN.out.s4 HKLL.out (fun e => HPQ.out ((congrArg Prod.fst HZ.out).symm.trans e)))⟩
        | false =>
          have key : ∀ n os, Below w0.heap.size w0 (grow (wr.drewN n) os) := fun n os => HJwr.out.trans ((dgrown_below wr n os).mono HJwr.out.size)
          have m0 : ∀ n os, (grow (wr.drewN n) os).cell? ⟨K, 0, none⟩ = some (.slice (some ⟨ga, 0, none⟩) N cp1) := fun n os => (HA.out _ (key n os)).1
          have m1 : ∀ n os, (grow (wr.drewN n) os).cell? ⟨ga, k * 2, none⟩ = some (.int .i64 z0) := fun n os => (HA.out _ (key n os)).2.2.1
          have m2 : ∀ n os, (grow (wr.drewN n) os).cell? ⟨ga, k * 2 + 1, none⟩ = some (.int .i64 z1) := fun n os => (HA.out _ (key n os)).2.2.2.1
          have m3 : ∀ n os, (grow (wr.drewN n) os).cell? ⟨bx, 0, none⟩ = some (.int .i64 p) := fun n os => (HBX.out _ (key n os)).1
          have m4 : ∀ n os, (grow (wr.drewN n) os).cell? ⟨bx, 1, none⟩ = some (.int .i64 q) := fun n os => (HBX.out _ (key n os)).2
          have cG : ∀ n os, Calls Tryz.prog 67 #[.agg #[.int .i64 z0, .int .i64 z1], .agg #[.int .i64 p, .int .i64 q]] (grow (wr.drewN n) os) fun e w'' => e = .returned (.bool (decide (pb (z0, z1) (p, q)))) ∧ ∃ p : GrownBy, w'' = grow (wr.drewN p.n) p.os := fun n os => Calls.grown_of (dbefore_any z0 z1 p q _)
          obtain ⟨s0, s1, _, _, _⟩ := HA.out wr HJwr.out
          clear key
          by_cases tb : pb (z0, z1) (p, q)
          · have etb : decide (pb (z0, z1) (p, q)) = true := decide_eq_true tb
            rw [etb] at cG
            have hpq : ¬ (z0, z1) = (p, q) := fun e => pb_irrefl (p, q) (by rw [e] at tb; exact tb)
            have hne := pair_neq_yes hpq
            have HTB := Lib.hid tb
            clear tb etb hpq
            go_wp2_with fail
            go_quiet_grown (first | (go_at_call 67; refine cG _ _))
            have HJwq : Hid (Below w0.heap.size w0 (grow (wr.drewN nq) osq)) := Lib.hid (HJwr.out.trans ((dgrown_below wr _ _).mono HJwr.out.size))
            have HOwq : Hid (ownE pairE (grow (wr.drewN nq) osq) w0.heap.size u6 P0) := Lib.hid (HOwr.out.below (dgrown_below wr _ _))
            have HCwq : Hid (ownE intE (grow (wr.drewN nq) osq) w0.heap.size u7 C0) := Lib.hid (HCwr.out.below (dgrown_below wr _ _))
            clear m0 m1 m2 m3 m4 cG s0 s1
            generalize grow (wr.drewN nq) osq = wq at *
            obtain ⟨kb0, kb1, xb0, xb1, yb0⟩ := HA.out wq HJwq.out
            obtain ⟨qb0, qb1⟩ := HBX.out wq HJwq.out
            go_wp2_with fail
            go_quiet (fail)
            have HJwy : Hid (Below w0.heap.size w0 (wq.drewN nq)) := Lib.hid (below_drewN' HJwq.out _)
            have HOwy : Hid (ownE pairE (wq.drewN nq) w0.heap.size u6 P0) := Lib.hid (HOwq.out.drewN _)
            have HCwy : Hid (ownE intE (wq.drewN nq) w0.heap.size u7 C0) := Lib.hid (HCwq.out.drewN _)
            clear kb0 kb1 xb0 xb1 yb0 qb0 qb1
            generalize wq.drewN nq = wy at *
            clear hne
            have bz := Below.refl wy.heap.size wy
            have G1 : Hid (Below wy.heap.size wy (wy.alloc (.cells #[.int .i64 z0, .int .i64 z1] 37)).drew) := Lib.hid (bz.alloc (Nat.le_refl _) _).drew
            have G6 : Hid (Below wy.heap.size wy (wy.alloc (.cells #[.int .i64 zc] 3)).drew) := Lib.hid (bz.alloc (Nat.le_refl _) _).drew
            have G2 : Hid (Below wy.heap.size wy ((wy.alloc (.cells #[.int .i64 z0, .int .i64 z1] 37)).alloc (.cells #[.int .i64 zc] 3)).drew) := Lib.hid ((bz.alloc (Nat.le_refl _) _).alloc (by simp) _).drew
            have G4 : Hid (Below wy.heap.size wy ((wy.alloc (.cells #[.int .i64 zc] 3)).alloc (.cells #[.int .i64 z0, .int .i64 z1] 37)).drew) := Lib.hid ((bz.alloc (Nat.le_refl _) _).alloc (by simp) _).drew
            have LA1 : Hid (eltsAt pairE (wy.alloc (.cells #[.int .i64 z0, .int .i64 z1] 37)).drew (.slice (some ⟨wy.heap.size, 0, none⟩) 1 1) [(z0, z1)]) := Lib.hid ((one_elt pairE wy (z0, z1)).drew 1)
            have LB6 : Hid (eltsAt intE (wy.alloc (.cells #[.int .i64 zc] 3)).drew (.slice (some ⟨wy.heap.size, 0, none⟩) 1 1) [zc]) := Lib.hid ((one_elt intE wy zc).drew 1)
            have LA2 : Hid (eltsAt pairE ((wy.alloc (.cells #[.int .i64 z0, .int .i64 z1] 37)).alloc (.cells #[.int .i64 zc] 3)).drew (.slice (some ⟨wy.heap.size, 0, none⟩) 1 1) [(z0, z1)]) := Lib.hid (((one_elt pairE wy (z0, z1)).below ((Below.refl _ _).alloc (Nat.le_refl _) _) (Nat.le_refl _)).drew 1)
            have LB2 : Hid (eltsAt intE ((wy.alloc (.cells #[.int .i64 z0, .int .i64 z1] 37)).alloc (.cells #[.int .i64 zc] 3)).drew (.slice (some ⟨wy.heap.size + 1, 0, none⟩) 1 1) [zc]) := Lib.hid (by
              have := (one_elt intE (wy.alloc (.cells #[.int .i64 z0, .int .i64 z1] 37)) zc).drew 1
              rwa [World.size_alloc] at this)
            have LB4 : Hid (eltsAt intE ((wy.alloc (.cells #[.int .i64 zc] 3)).alloc (.cells #[.int .i64 z0, .int .i64 z1] 37)).drew (.slice (some ⟨wy.heap.size, 0, none⟩) 1 1) [zc]) := Lib.hid (((one_elt intE wy zc).below ((Below.refl _ _).alloc (Nat.le_refl _) _) (Nat.le_refl _)).drew 1)
            have LA4 : Hid (eltsAt pairE ((wy.alloc (.cells #[.int .i64 zc] 3)).alloc (.cells #[.int .i64 z0, .int .i64 z1] 37)).drew (.slice (some ⟨wy.heap.size + 1, 0, none⟩) 1 1) [(z0, z1)]) := Lib.hid (by
              have := (one_elt pairE (wy.alloc (.cells #[.int .i64 zc] 3)) (z0, z1)).drew 1
              rwa [World.size_alloc] at this)
            have HSZ : Hid (w0.heap.size ≤ wy.heap.size) := Lib.hid HJwy.out.size
            have OP1 := Lib.hid (HOwy.out.below G1.out)
            have OC1 := Lib.hid (HCwy.out.below G1.out)
            have SZ1 := Lib.hid (Nat.le_trans HSZ.out G1.out.size)
            have BJ1 := Lib.hid (HJwy.out.trans (G1.out.mono HSZ.out))
            have HX1 := Lib.hid (HA.out _ BJ1.out)
            have OP2 := Lib.hid (HOwy.out.below G2.out)
            have OC2 := Lib.hid (HCwy.out.below G2.out)
            have SZ2 := Lib.hid (Nat.le_trans HSZ.out G2.out.size)
            have BJ2 := Lib.hid (HJwy.out.trans (G2.out.mono HSZ.out))
            have HX2 := Lib.hid (HA.out _ BJ2.out)
            have OP4 := Lib.hid (HOwy.out.below G4.out)
            have OC4 := Lib.hid (HCwy.out.below G4.out)
            have SZ4 := Lib.hid (Nat.le_trans HSZ.out G4.out.size)
            have BJ4 := Lib.hid (HJwy.out.trans (G4.out.mono HSZ.out))
            have HX4 := Lib.hid (HA.out _ BJ4.out)
            have OP6 := Lib.hid (HOwy.out.below G6.out)
            have OC6 := Lib.hid (HCwy.out.below G6.out)
            have SZ6 := Lib.hid (Nat.le_trans HSZ.out G6.out.size)
            have BJ6 := Lib.hid (HJwy.out.trans (G6.out.mono HSZ.out))
            have HX6 := Lib.hid (HA.out _ BJ6.out)
            have HX0 := Lib.hid (HA.out wy HJwy.out)
            clear bz
            go_wp2_with fail
            go_region_held3 (fun w' => At5 w' K ga gb k (.slice (some ⟨ga, 0, none⟩) N cp1) (.slice (some ⟨gb, 0, none⟩) N cp2) z0 z1 zc)
              (first | with_reducible exact HX0.out | with_reducible exact HX1.out | with_reducible exact HX6.out | with_reducible exact HX2.out | with_reducible exact HX4.out | with_reducible exact XA.out | with_reducible exact XB.out | with_reducible exact XC.out | exact HX0.out | exact trivial) (first
              | (refine step_append_elts intE rfl (.tmp 80) (.tmp 88) rfl w0.heap.size u7 _ C0 [zc] rfl rfl HQC.out HQB.out (someNone _ _ _) (by have := HCl.out; simp only [List.length_singleton]; omega) HQJ.out.size ?_
                 intro r3 w3 ho3 hg3 _
                 have HP3 : Hid (ownE pairE w3 w0.heap.size r2 (P0 ++ [(z0, z1)])) := Lib.hid (down_pairs HQP.out HQC.out hg3)
                 have HC3 : Hid (ownE intE w3 w0.heap.size r3 (C0 ++ [zc])) := Lib.hid ho3
                 have HJ3 : Hid (Below w0.heap.size w0 w3) := Lib.hid (dbelow_own2 HQJ.out hg3 HQC.out)
                 have XC := Lib.hid (HA.out w3 HJ3.out)
                 clear ho3 hg3)
              | (refine step_append_elts pairE rfl (.tmp 70) (.tmp 78) rfl w0.heap.size u6 _ P0 [(z0, z1)] rfl rfl HRP.out HRA.out (someNone _ _ _) (by have := HPl.out; simp only [List.length_singleton]; omega) HRJ.out.size ?_
                 intro r3 w3 ho3 hg3 _
                 have HC3 : Hid (ownE intE w3 w0.heap.size r2 (C0 ++ [zc])) := Lib.hid (down_ints HRP.out HRC.out hg3)
                 have HP3 : Hid (ownE pairE w3 w0.heap.size r3 (P0 ++ [(z0, z1)])) := Lib.hid ho3
                 have HJ3 : Hid (Below w0.heap.size w0 w3) := Lib.hid (dbelow_own2 HRJ.out hg3 HRP.out)
                 have XC := Lib.hid (HA.out w3 HJ3.out)
                 clear ho3 hg3)
              | (refine step_append_elts pairE rfl (.tmp 70) (.tmp 78) rfl w0.heap.size u6 (.slice (some ⟨wy.heap.size + 1, 0, none⟩) 1 1) P0 [(z0, z1)] rfl rfl (by with_reducible exact OP4.out) (by with_reducible exact LA4.out) (someNone _ _ _) (by have := HPl.out; simp only [List.length_singleton]; omega) (by with_reducible exact SZ4.out) ?_
                 intro r2 w2 ho2 hg2 _
                 have HQP0 : Hid (ownE pairE w2 w0.heap.size r2 (P0 ++ [(z0, z1)])) := Lib.hid ho2
                 have HQC0 := Lib.hid (down_ints OP4.out OC4.out hg2)
                 have HJ2 : Hid (Below w0.heap.size w0 w2) := Lib.hid (dbelow_own2 BJ4.out hg2 OP4.out)
                 have XA := Lib.hid (HA.out w2 HJ2.out)
                 have HQP := Lib.hid HQP0.out
                 have HQC := Lib.hid HQC0.out
                 have HQB := Lib.hid (dlit_kept LB4.out HOwy.out (by simp) (by simp <;> omega) hg2)
                 have HQJ := Lib.hid HJ2.out
                 clear ho2 hg2)
              | (refine step_append_elts pairE rfl (.tmp 70) (.tmp 78) rfl w0.heap.size u6 (.slice (some ⟨wy.heap.size, 0, none⟩) 1 1) P0 [(z0, z1)] rfl rfl (by with_reducible exact OP2.out) (by with_reducible exact LA2.out) (someNone _ _ _) (by have := HPl.out; simp only [List.length_singleton]; omega) (by with_reducible exact SZ2.out) ?_
                 intro r2 w2 ho2 hg2 _
                 have HQP0 : Hid (ownE pairE w2 w0.heap.size r2 (P0 ++ [(z0, z1)])) := Lib.hid ho2
                 have HQC0 := Lib.hid (down_ints OP2.out OC2.out hg2)
                 have HJ2 : Hid (Below w0.heap.size w0 w2) := Lib.hid (dbelow_own2 BJ2.out hg2 OP2.out)
                 have XA := Lib.hid (HA.out w2 HJ2.out)
                 have HQP := Lib.hid HQP0.out
                 have HQC := Lib.hid HQC0.out
                 have HQB := Lib.hid (dlit_kept LB2.out HOwy.out (by simp) (by simp <;> omega) hg2)
                 have HQJ := Lib.hid HJ2.out
                 clear ho2 hg2)
              | (refine step_append_elts pairE rfl (.tmp 70) (.tmp 78) rfl w0.heap.size u6 (.slice (some ⟨wy.heap.size, 0, none⟩) 1 1) P0 [(z0, z1)] rfl rfl (by with_reducible exact OP1.out) (by with_reducible exact LA1.out) (someNone _ _ _) (by have := HPl.out; simp only [List.length_singleton]; omega) (by with_reducible exact SZ1.out) ?_
                 intro r2 w2 ho2 hg2 _
                 have HQP0 : Hid (ownE pairE w2 w0.heap.size r2 (P0 ++ [(z0, z1)])) := Lib.hid ho2
                 have HQC0 := Lib.hid (down_ints OP1.out OC1.out hg2)
                 have HJ2 : Hid (Below w0.heap.size w0 w2) := Lib.hid (dbelow_own2 BJ1.out hg2 OP1.out)
                 have XA := Lib.hid (HA.out w2 HJ2.out)
                 have HQP := Lib.hid (HQP0.out.alloc (.cells #[.int .i64 zc] 3))
                 have HQC := Lib.hid (HQC0.out.alloc (.cells #[.int .i64 zc] 3))
                 have HQB : Hid (eltsAt intE (w2.alloc (.cells #[.int .i64 zc] 3)) (.slice (some ⟨w2.heap.size, 0, none⟩) 1 1) [zc]) := Lib.hid (one_elt intE w2 zc)
                 have HQJ := Lib.hid (HJ2.out.alloc HJ2.out.size (.cells #[.int .i64 zc] 3))
                 have XB := Lib.hid (HA.out _ HQJ.out)
                 clear ho2 hg2)
              | (refine step_append_elts intE rfl (.tmp 80) (.tmp 88) rfl w0.heap.size u7 (.slice (some ⟨wy.heap.size + 1, 0, none⟩) 1 1) C0 [zc] rfl rfl (by with_reducible exact OC2.out) (by with_reducible exact LB2.out) (someNone _ _ _) (by have := HCl.out; simp only [List.length_singleton]; omega) (by with_reducible exact SZ2.out) ?_
                 intro r2 w2 ho2 hg2 _
                 have HRC0 : Hid (ownE intE w2 w0.heap.size r2 (C0 ++ [zc])) := Lib.hid ho2
                 have HRP0 := Lib.hid (down_pairs OP2.out OC2.out hg2)
                 have HJ2 : Hid (Below w0.heap.size w0 w2) := Lib.hid (dbelow_own2 BJ2.out hg2 OC2.out)
                 have XA := Lib.hid (HA.out w2 HJ2.out)
                 have HRC := Lib.hid HRC0.out
                 have HRP := Lib.hid HRP0.out
                 have HRA := Lib.hid (dlit_kept LA2.out HCwy.out (by simp) (by simp <;> omega) hg2)
                 have HRJ := Lib.hid HJ2.out
                 clear ho2 hg2)
              | (refine step_append_elts intE rfl (.tmp 80) (.tmp 88) rfl w0.heap.size u7 (.slice (some ⟨wy.heap.size, 0, none⟩) 1 1) C0 [zc] rfl rfl (by with_reducible exact OC4.out) (by with_reducible exact LB4.out) (someNone _ _ _) (by have := HCl.out; simp only [List.length_singleton]; omega) (by with_reducible exact SZ4.out) ?_
                 intro r2 w2 ho2 hg2 _
                 have HRC0 : Hid (ownE intE w2 w0.heap.size r2 (C0 ++ [zc])) := Lib.hid ho2
                 have HRP0 := Lib.hid (down_pairs OP4.out OC4.out hg2)
                 have HJ2 : Hid (Below w0.heap.size w0 w2) := Lib.hid (dbelow_own2 BJ4.out hg2 OC4.out)
                 have XA := Lib.hid (HA.out w2 HJ2.out)
                 have HRC := Lib.hid HRC0.out
                 have HRP := Lib.hid HRP0.out
                 have HRA := Lib.hid (dlit_kept LA4.out HCwy.out (by simp) (by simp <;> omega) hg2)
                 have HRJ := Lib.hid HJ2.out
                 clear ho2 hg2)
              | (refine step_append_elts intE rfl (.tmp 80) (.tmp 88) rfl w0.heap.size u7 (.slice (some ⟨wy.heap.size, 0, none⟩) 1 1) C0 [zc] rfl rfl (by with_reducible exact OC6.out) (by with_reducible exact LB6.out) (someNone _ _ _) (by have := HCl.out; simp only [List.length_singleton]; omega) (by with_reducible exact SZ6.out) ?_
                 intro r2 w2 ho2 hg2 _
                 have HRC0 : Hid (ownE intE w2 w0.heap.size r2 (C0 ++ [zc])) := Lib.hid ho2
                 have HRP0 := Lib.hid (down_pairs OP6.out OC6.out hg2)
                 have HJ2 : Hid (Below w0.heap.size w0 w2) := Lib.hid (dbelow_own2 BJ6.out hg2 OC6.out)
                 have XA := Lib.hid (HA.out w2 HJ2.out)
                 have HRC := Lib.hid (HRC0.out.alloc (.cells #[.int .i64 z0, .int .i64 z1] 37))
                 have HRP := Lib.hid (HRP0.out.alloc (.cells #[.int .i64 z0, .int .i64 z1] 37))
                 have HRA : Hid (eltsAt pairE (w2.alloc (.cells #[.int .i64 z0, .int .i64 z1] 37)) (.slice (some ⟨w2.heap.size, 0, none⟩) 1 1) [(z0, z1)]) := Lib.hid (one_elt pairE w2 (z0, z1))
                 have HRJ := Lib.hid (HJ2.out.alloc HJ2.out.size (.cells #[.int .i64 z0, .int .i64 z1] 37))
                 have XB := Lib.hid (HA.out _ HRJ.out)
                 clear ho2 hg2))
            all_goals clear OP1 OP2 OP4 OP6 OC1 OC2 OC4 OC6 SZ1 SZ2 SZ4 SZ6 BJ1 BJ2 BJ4 BJ6 LA1 LA2 LA4 LB2 LB4 LB6 G1 G2 G4 G6 HX0 HX1 HX2 HX4 HX6
            all_goals go_wp2
            all_goals go_roundw
            all_goals try (case measure => simp [intOf] <;> omega)
            all_goals exact ⟨k + 1, O ++ [((z0, z1), zc)], false, by simp, rfl, by rw [keys_snoc, ← HPC.out.1]; exact HP3.out, by rw [vals_snoc, ← HPC.out.2]; exact HC3.out, HJ3.out, Eq.mp (congrArg (fun y : (Int × Int) × Int => SInv L (p, q) n (k + 1) (O ++ [y]) false) HZ.out) (HIN.out.s5 HKLL.out (Eq.mpr (congrArg (fun y : (Int × Int) × Int => pb y.1 (p, q)) HZ.out) HTB.out))⟩
          · have etb : decide (pb (z0, z1) (p, q)) = false := decide_eq_false tb
            rw [etb] at cG
            have HTB := Lib.hid tb
            clear tb etb
            go_wp2_with fail
            go_quiet_grown (first | (go_at_call 67; refine cG _ _))
            have HJwq : Hid (Below w0.heap.size w0 (grow (wr.drewN nq) osq)) := Lib.hid (HJwr.out.trans ((dgrown_below wr _ _).mono HJwr.out.size))
            have HOwq : Hid (ownE pairE (grow (wr.drewN nq) osq) w0.heap.size u6 P0) := Lib.hid (HOwr.out.below (dgrown_below wr _ _))
            have HCwq : Hid (ownE intE (grow (wr.drewN nq) osq) w0.heap.size u7 C0) := Lib.hid (HCwr.out.below (dgrown_below wr _ _))
            clear m0 m1 m2 m3 m4 cG s0 s1
            generalize grow (wr.drewN nq) osq = wq at *
            obtain ⟨kb0, kb1, xb0, xb1, yb0⟩ := HA.out wq HJwq.out
            obtain ⟨qb0, qb1⟩ := HBX.out wq HJwq.out
            have HEa : Hid (eltsAt pairE (wq.alloc (.cells #[.int .i64 p, .int .i64 q] 37)) (.slice (some ⟨wq.heap.size, 0, none⟩) 1 1) [(p, q)]) := Lib.hid (one_elt pairE wq (p, q))
            have HOa : Hid (ownE pairE (wq.alloc (.cells #[.int .i64 p, .int .i64 q] 37)) w0.heap.size u6 P0) := Lib.hid (HOwq.out.alloc _)
            have HCa : Hid (ownE intE (wq.alloc (.cells #[.int .i64 p, .int .i64 q] 37)) w0.heap.size u7 C0) := Lib.hid (HCwq.out.alloc _)
            have HJa : Hid (Below w0.heap.size w0 (wq.alloc (.cells #[.int .i64 p, .int .i64 q] 37))) := Lib.hid (HJwq.out.alloc HJwq.out.size _)
            go_wp2_with (first
              | (at_builtin
                 refine wpList_append_elts intE rfl (.tmp 48) (.tmp 50) rfl w0.heap.size u7 _ C0 [n] rfl rfl HCb.out HEb.out (someNone _ _ _) (by have := HCl.out; simp only [List.length_singleton]; omega) HJb.out.size ?_
                 intro r8 w8 ho8 hg8 _
                 have HOw8 : Hid (ownE pairE w8 w0.heap.size r7 (P0 ++ [(p, q)])) := Lib.hid (down_pairs HOb.out HCb.out hg8)
                 have HCw8 : Hid (ownE intE w8 w0.heap.size r8 (C0 ++ [n])) := Lib.hid ho8
                 have HJw8 : Hid (Below w0.heap.size w0 w8) := Lib.hid (dbelow_own2 HJb.out hg8 HCb.out)
                 clear ho8 hg8)
              | (at_builtin
                 refine wpList_append_elts pairE rfl (.tmp 44) (.tmp 46) rfl w0.heap.size u6 _ P0 [(p, q)] rfl rfl HOa.out HEa.out (someNone _ _ _) (by have := HPl.out; simp only [List.length_singleton]; omega) HJa.out.size ?_
                 intro r7 w7 ho7 hg7 _
                 have HOb : Hid (ownE pairE (w7.alloc (.cells #[.int .i64 n] 3)) w0.heap.size r7 (P0 ++ [(p, q)])) := Lib.hid (ho7.alloc _)
                 have HCb : Hid (ownE intE (w7.alloc (.cells #[.int .i64 n] 3)) w0.heap.size u7 C0) := Lib.hid ((down_ints HOa.out HCa.out hg7).alloc _)
                 have HEb : Hid (eltsAt intE (w7.alloc (.cells #[.int .i64 n] 3)) (.slice (some ⟨w7.heap.size, 0, none⟩) 1 1) [n]) := Lib.hid (one_elt intE w7 n)
                 have HJ7 : Hid (Below w0.heap.size w0 w7) := Lib.hid (dbelow_own2 HJa.out hg7 HOa.out)
                 have HJb : Hid (Below w0.heap.size w0 (w7.alloc (.cells #[.int .i64 n] 3))) := Lib.hid (HJ7.out.alloc HJ7.out.size _)
                 clear ho7 hg7))
            clear HEa HOa HCa HJa HOb HCb HEb HJ7 HJb
            clear kb0 kb1 xb0 xb1 yb0 qb0 qb1
            obtain ⟨kc0, kc1, xc0, xc1, yc0⟩ := HA.out w8 HJw8.out
            obtain ⟨qc0, qc1⟩ := HBX.out w8 HJw8.out
            by_cases hpq : (z0, z1) = (p, q)
            · have e0 : z0 = p := congrArg Prod.fst hpq
              have e1 : z1 = q := congrArg Prod.snd hpq
              have HPQ := Lib.hid hpq
              subst e0
              subst e1
              have hne := pair_neq_no z0 z1
              clear hpq
              go_quiet (fail)
              have HJwy : Hid (Below w0.heap.size w0 (w8.drewN nq)) := Lib.hid (below_drewN' HJw8.out _)
              have HOwy : Hid (ownE pairE (w8.drewN nq) w0.heap.size r7 (P0 ++ [(z0, z1)])) := Lib.hid (HOw8.out.drewN _)
              have HCwy : Hid (ownE intE (w8.drewN nq) w0.heap.size r8 (C0 ++ [n])) := Lib.hid (HCw8.out.drewN _)
              clear kc0 kc1 xc0 xc1 yc0 qc0 qc1
              generalize w8.drewN nq = wy at *
              go_wp2
              go_roundw
              case measure => simp [intOf] <;> omega
              case rel => exact ⟨k + 1, O ++ [((z0, z1), n)], true, by simp, rfl, by rw [keys_snoc, ← HPC.out.1]; exact HOwy.out, by rw [vals_snoc, ← HPC.out.2]; exact HCwy.out, HJwy.out, HIN.out.s6 HKLL.out (Eq.mpr (congrArg (fun y : (Int × Int) × Int => ¬ pb y.1 (z0, z1)) HZ.out) HTB.out) (congrArg Prod.fst HZ.out)⟩
            · have hne := pair_neq_yes hpq
              have HPQ := Lib.hid hpq
              clear hpq
              go_quiet (fail)
              have HJwy : Hid (Below w0.heap.size w0 (w8.drewN nq)) := Lib.hid (below_drewN' HJw8.out _)
              have HOwy : Hid (ownE pairE (w8.drewN nq) w0.heap.size r7 (P0 ++ [(p, q)])) := Lib.hid (HOw8.out.drewN _)
              have HCwy : Hid (ownE intE (w8.drewN nq) w0.heap.size r8 (C0 ++ [n])) := Lib.hid (HCw8.out.drewN _)
              clear kc0 kc1 xc0 xc1 yc0 qc0 qc1
              generalize w8.drewN nq = wy at *
              clear hne
              have bz := Below.refl wy.heap.size wy
              have G1 : Hid (Below wy.heap.size wy (wy.alloc (.cells #[.int .i64 z0, .int .i64 z1] 37)).drew) := Lib.hid (bz.alloc (Nat.le_refl _) _).drew
              have G6 : Hid (Below wy.heap.size wy (wy.alloc (.cells #[.int .i64 zc] 3)).drew) := Lib.hid (bz.alloc (Nat.le_refl _) _).drew
              have G2 : Hid (Below wy.heap.size wy ((wy.alloc (.cells #[.int .i64 z0, .int .i64 z1] 37)).alloc (.cells #[.int .i64 zc] 3)).drew) := Lib.hid ((bz.alloc (Nat.le_refl _) _).alloc (by simp) _).drew
              have G4 : Hid (Below wy.heap.size wy ((wy.alloc (.cells #[.int .i64 zc] 3)).alloc (.cells #[.int .i64 z0, .int .i64 z1] 37)).drew) := Lib.hid ((bz.alloc (Nat.le_refl _) _).alloc (by simp) _).drew
              have LA1 : Hid (eltsAt pairE (wy.alloc (.cells #[.int .i64 z0, .int .i64 z1] 37)).drew (.slice (some ⟨wy.heap.size, 0, none⟩) 1 1) [(z0, z1)]) := Lib.hid ((one_elt pairE wy (z0, z1)).drew 1)
              have LB6 : Hid (eltsAt intE (wy.alloc (.cells #[.int .i64 zc] 3)).drew (.slice (some ⟨wy.heap.size, 0, none⟩) 1 1) [zc]) := Lib.hid ((one_elt intE wy zc).drew 1)
              have LA2 : Hid (eltsAt pairE ((wy.alloc (.cells #[.int .i64 z0, .int .i64 z1] 37)).alloc (.cells #[.int .i64 zc] 3)).drew (.slice (some ⟨wy.heap.size, 0, none⟩) 1 1) [(z0, z1)]) := Lib.hid (((one_elt pairE wy (z0, z1)).below ((Below.refl _ _).alloc (Nat.le_refl _) _) (Nat.le_refl _)).drew 1)
              have LB2 : Hid (eltsAt intE ((wy.alloc (.cells #[.int .i64 z0, .int .i64 z1] 37)).alloc (.cells #[.int .i64 zc] 3)).drew (.slice (some ⟨wy.heap.size + 1, 0, none⟩) 1 1) [zc]) := Lib.hid (by
                have := (one_elt intE (wy.alloc (.cells #[.int .i64 z0, .int .i64 z1] 37)) zc).drew 1
                rwa [World.size_alloc] at this)
              have LB4 : Hid (eltsAt intE ((wy.alloc (.cells #[.int .i64 zc] 3)).alloc (.cells #[.int .i64 z0, .int .i64 z1] 37)).drew (.slice (some ⟨wy.heap.size, 0, none⟩) 1 1) [zc]) := Lib.hid (((one_elt intE wy zc).below ((Below.refl _ _).alloc (Nat.le_refl _) _) (Nat.le_refl _)).drew 1)
              have LA4 : Hid (eltsAt pairE ((wy.alloc (.cells #[.int .i64 zc] 3)).alloc (.cells #[.int .i64 z0, .int .i64 z1] 37)).drew (.slice (some ⟨wy.heap.size + 1, 0, none⟩) 1 1) [(z0, z1)]) := Lib.hid (by
                have := (one_elt pairE (wy.alloc (.cells #[.int .i64 zc] 3)) (z0, z1)).drew 1
                rwa [World.size_alloc] at this)
              have HSZ : Hid (w0.heap.size ≤ wy.heap.size) := Lib.hid HJwy.out.size
              have OP1 := Lib.hid (HOwy.out.below G1.out)
              have OC1 := Lib.hid (HCwy.out.below G1.out)
              have SZ1 := Lib.hid (Nat.le_trans HSZ.out G1.out.size)
              have BJ1 := Lib.hid (HJwy.out.trans (G1.out.mono HSZ.out))
              have HX1 := Lib.hid (HA.out _ BJ1.out)
              have OP2 := Lib.hid (HOwy.out.below G2.out)
              have OC2 := Lib.hid (HCwy.out.below G2.out)
              have SZ2 := Lib.hid (Nat.le_trans HSZ.out G2.out.size)
              have BJ2 := Lib.hid (HJwy.out.trans (G2.out.mono HSZ.out))
              have HX2 := Lib.hid (HA.out _ BJ2.out)
              have OP4 := Lib.hid (HOwy.out.below G4.out)
              have OC4 := Lib.hid (HCwy.out.below G4.out)
              have SZ4 := Lib.hid (Nat.le_trans HSZ.out G4.out.size)
              have BJ4 := Lib.hid (HJwy.out.trans (G4.out.mono HSZ.out))
              have HX4 := Lib.hid (HA.out _ BJ4.out)
              have OP6 := Lib.hid (HOwy.out.below G6.out)
              have OC6 := Lib.hid (HCwy.out.below G6.out)
              have SZ6 := Lib.hid (Nat.le_trans HSZ.out G6.out.size)
              have BJ6 := Lib.hid (HJwy.out.trans (G6.out.mono HSZ.out))
              have HX6 := Lib.hid (HA.out _ BJ6.out)
              have HX0 := Lib.hid (HA.out wy HJwy.out)
              clear bz
              go_wp2_with fail
              go_region_held3 (fun w' => At5 w' K ga gb k (.slice (some ⟨ga, 0, none⟩) N cp1) (.slice (some ⟨gb, 0, none⟩) N cp2) z0 z1 zc)
                (first | with_reducible exact HX0.out | with_reducible exact HX1.out | with_reducible exact HX6.out | with_reducible exact HX2.out | with_reducible exact HX4.out | with_reducible exact XA.out | with_reducible exact XB.out | with_reducible exact XC.out | exact HX0.out | exact trivial) (first
                | (refine step_append_elts intE rfl (.tmp 80) (.tmp 88) rfl w0.heap.size r8 _ (C0 ++ [n]) [zc] rfl rfl HQC.out HQB.out (someNone _ _ _) (by have := HCl.out; simp only [List.length_singleton, List.length_append]; omega) HQJ.out.size ?_
                   intro r3 w3 ho3 hg3 _
                   have HP3 : Hid (ownE pairE w3 w0.heap.size r2 ((P0 ++ [(p, q)]) ++ [(z0, z1)])) := Lib.hid (down_pairs HQP.out HQC.out hg3)
                   have HC3 : Hid (ownE intE w3 w0.heap.size r3 ((C0 ++ [n]) ++ [zc])) := Lib.hid ho3
                   have HJ3 : Hid (Below w0.heap.size w0 w3) := Lib.hid (dbelow_own2 HQJ.out hg3 HQC.out)
                   have XC := Lib.hid (HA.out w3 HJ3.out)
                   clear ho3 hg3)
                | (refine step_append_elts pairE rfl (.tmp 70) (.tmp 78) rfl w0.heap.size r7 _ (P0 ++ [(p, q)]) [(z0, z1)] rfl rfl HRP.out HRA.out (someNone _ _ _) (by have := HPl.out; simp only [List.length_singleton, List.length_append]; omega) HRJ.out.size ?_
                   intro r3 w3 ho3 hg3 _
                   have HC3 : Hid (ownE intE w3 w0.heap.size r2 ((C0 ++ [n]) ++ [zc])) := Lib.hid (down_ints HRP.out HRC.out hg3)
                   have HP3 : Hid (ownE pairE w3 w0.heap.size r3 ((P0 ++ [(p, q)]) ++ [(z0, z1)])) := Lib.hid ho3
                   have HJ3 : Hid (Below w0.heap.size w0 w3) := Lib.hid (dbelow_own2 HRJ.out hg3 HRP.out)
                   have XC := Lib.hid (HA.out w3 HJ3.out)
                   clear ho3 hg3)
                | (refine step_append_elts pairE rfl (.tmp 70) (.tmp 78) rfl w0.heap.size r7 (.slice (some ⟨wy.heap.size + 1, 0, none⟩) 1 1) (P0 ++ [(p, q)]) [(z0, z1)] rfl rfl (by with_reducible exact OP4.out) (by with_reducible exact LA4.out) (someNone _ _ _) (by have := HPl.out; simp only [List.length_singleton, List.length_append]; omega) (by with_reducible exact SZ4.out) ?_
                   intro r2 w2 ho2 hg2 _
                   have HQP0 : Hid (ownE pairE w2 w0.heap.size r2 ((P0 ++ [(p, q)]) ++ [(z0, z1)])) := Lib.hid ho2
                   have HQC0 := Lib.hid (down_ints OP4.out OC4.out hg2)
                   have HJ2 : Hid (Below w0.heap.size w0 w2) := Lib.hid (dbelow_own2 BJ4.out hg2 OP4.out)
                   have XA := Lib.hid (HA.out w2 HJ2.out)
                   have HQP := Lib.hid HQP0.out
                   have HQC := Lib.hid HQC0.out
                   have HQB := Lib.hid (dlit_kept LB4.out HOwy.out (by simp) (by simp <;> omega) hg2)
                   have HQJ := Lib.hid HJ2.out
                   clear ho2 hg2)
                | (refine step_append_elts pairE rfl (.tmp 70) (.tmp 78) rfl w0.heap.size r7 (.slice (some ⟨wy.heap.size, 0, none⟩) 1 1) (P0 ++ [(p, q)]) [(z0, z1)] rfl rfl (by with_reducible exact OP2.out) (by with_reducible exact LA2.out) (someNone _ _ _) (by have := HPl.out; simp only [List.length_singleton, List.length_append]; omega) (by with_reducible exact SZ2.out) ?_
                   intro r2 w2 ho2 hg2 _
                   have HQP0 : Hid (ownE pairE w2 w0.heap.size r2 ((P0 ++ [(p, q)]) ++ [(z0, z1)])) := Lib.hid ho2
                   have HQC0 := Lib.hid (down_ints OP2.out OC2.out hg2)
                   have HJ2 : Hid (Below w0.heap.size w0 w2) := Lib.hid (dbelow_own2 BJ2.out hg2 OP2.out)
                   have XA := Lib.hid (HA.out w2 HJ2.out)
                   have HQP := Lib.hid HQP0.out
                   have HQC := Lib.hid HQC0.out
                   have HQB := Lib.hid (dlit_kept LB2.out HOwy.out (by simp) (by simp <;> omega) hg2)
                   have HQJ := Lib.hid HJ2.out
                   clear ho2 hg2)
                | (refine step_append_elts pairE rfl (.tmp 70) (.tmp 78) rfl w0.heap.size r7 (.slice (some ⟨wy.heap.size, 0, none⟩) 1 1) (P0 ++ [(p, q)]) [(z0, z1)] rfl rfl (by with_reducible exact OP1.out) (by with_reducible exact LA1.out) (someNone _ _ _) (by have := HPl.out; simp only [List.length_singleton, List.length_append]; omega) (by with_reducible exact SZ1.out) ?_
                   intro r2 w2 ho2 hg2 _
                   have HQP0 : Hid (ownE pairE w2 w0.heap.size r2 ((P0 ++ [(p, q)]) ++ [(z0, z1)])) := Lib.hid ho2
                   have HQC0 := Lib.hid (down_ints OP1.out OC1.out hg2)
                   have HJ2 : Hid (Below w0.heap.size w0 w2) := Lib.hid (dbelow_own2 BJ1.out hg2 OP1.out)
                   have XA := Lib.hid (HA.out w2 HJ2.out)
                   have HQP := Lib.hid (HQP0.out.alloc (.cells #[.int .i64 zc] 3))
                   have HQC := Lib.hid (HQC0.out.alloc (.cells #[.int .i64 zc] 3))
                   have HQB : Hid (eltsAt intE (w2.alloc (.cells #[.int .i64 zc] 3)) (.slice (some ⟨w2.heap.size, 0, none⟩) 1 1) [zc]) := Lib.hid (one_elt intE w2 zc)
                   have HQJ := Lib.hid (HJ2.out.alloc HJ2.out.size (.cells #[.int .i64 zc] 3))
                   have XB := Lib.hid (HA.out _ HQJ.out)
                   clear ho2 hg2)
                | (refine step_append_elts intE rfl (.tmp 80) (.tmp 88) rfl w0.heap.size r8 (.slice (some ⟨wy.heap.size + 1, 0, none⟩) 1 1) (C0 ++ [n]) [zc] rfl rfl (by with_reducible exact OC2.out) (by with_reducible exact LB2.out) (someNone _ _ _) (by have := HCl.out; simp only [List.length_singleton, List.length_append]; omega) (by with_reducible exact SZ2.out) ?_
                   intro r2 w2 ho2 hg2 _
                   have HRC0 : Hid (ownE intE w2 w0.heap.size r2 ((C0 ++ [n]) ++ [zc])) := Lib.hid ho2
                   have HRP0 := Lib.hid (down_pairs OP2.out OC2.out hg2)
                   have HJ2 : Hid (Below w0.heap.size w0 w2) := Lib.hid (dbelow_own2 BJ2.out hg2 OC2.out)
                   have XA := Lib.hid (HA.out w2 HJ2.out)
                   have HRC := Lib.hid HRC0.out
                   have HRP := Lib.hid HRP0.out
                   have HRA := Lib.hid (dlit_kept LA2.out HCwy.out (by simp) (by simp <;> omega) hg2)
                   have HRJ := Lib.hid HJ2.out
                   clear ho2 hg2)
                | (refine step_append_elts intE rfl (.tmp 80) (.tmp 88) rfl w0.heap.size r8 (.slice (some ⟨wy.heap.size, 0, none⟩) 1 1) (C0 ++ [n]) [zc] rfl rfl (by with_reducible exact OC4.out) (by with_reducible exact LB4.out) (someNone _ _ _) (by have := HCl.out; simp only [List.length_singleton, List.length_append]; omega) (by with_reducible exact SZ4.out) ?_
                   intro r2 w2 ho2 hg2 _
                   have HRC0 : Hid (ownE intE w2 w0.heap.size r2 ((C0 ++ [n]) ++ [zc])) := Lib.hid ho2
                   have HRP0 := Lib.hid (down_pairs OP4.out OC4.out hg2)
                   have HJ2 : Hid (Below w0.heap.size w0 w2) := Lib.hid (dbelow_own2 BJ4.out hg2 OC4.out)
                   have XA := Lib.hid (HA.out w2 HJ2.out)
                   have HRC := Lib.hid HRC0.out
                   have HRP := Lib.hid HRP0.out
                   have HRA := Lib.hid (dlit_kept LA4.out HCwy.out (by simp) (by simp <;> omega) hg2)
                   have HRJ := Lib.hid HJ2.out
                   clear ho2 hg2)
                | (refine step_append_elts intE rfl (.tmp 80) (.tmp 88) rfl w0.heap.size r8 (.slice (some ⟨wy.heap.size, 0, none⟩) 1 1) (C0 ++ [n]) [zc] rfl rfl (by with_reducible exact OC6.out) (by with_reducible exact LB6.out) (someNone _ _ _) (by have := HCl.out; simp only [List.length_singleton, List.length_append]; omega) (by with_reducible exact SZ6.out) ?_
                   intro r2 w2 ho2 hg2 _
                   have HRC0 : Hid (ownE intE w2 w0.heap.size r2 ((C0 ++ [n]) ++ [zc])) := Lib.hid ho2
                   have HRP0 := Lib.hid (down_pairs OP6.out OC6.out hg2)
                   have HJ2 : Hid (Below w0.heap.size w0 w2) := Lib.hid (dbelow_own2 BJ6.out hg2 OC6.out)
                   have XA := Lib.hid (HA.out w2 HJ2.out)
                   have HRC := Lib.hid (HRC0.out.alloc (.cells #[.int .i64 z0, .int .i64 z1] 37))
                   have HRP := Lib.hid (HRP0.out.alloc (.cells #[.int .i64 z0, .int .i64 z1] 37))
                   have HRA : Hid (eltsAt pairE (w2.alloc (.cells #[.int .i64 z0, .int .i64 z1] 37)) (.slice (some ⟨w2.heap.size, 0, none⟩) 1 1) [(z0, z1)]) := Lib.hid (one_elt pairE w2 (z0, z1))
                   have HRJ := Lib.hid (HJ2.out.alloc HJ2.out.size (.cells #[.int .i64 z0, .int .i64 z1] 37))
                   have XB := Lib.hid (HA.out _ HRJ.out)
                   clear ho2 hg2))
              all_goals clear OP1 OP2 OP4 OP6 OC1 OC2 OC4 OC6 SZ1 SZ2 SZ4 SZ6 BJ1 BJ2 BJ4 BJ6 LA1 LA2 LA4 LB2 LB4 LB6 G1 G2 G4 G6 HX0 HX1 HX2 HX4 HX6
              all_goals go_wp2
              all_goals go_roundw
              all_goals try (case measure => simp [intOf] <;> omega)
              all_goals exact ⟨k + 1, O ++ [((p, q), n)] ++ [((z0, z1), zc)], true, by simp, rfl, by rw [keys_snoc, keys_snoc, ← HPC.out.1]; exact HP3.out, by rw [vals_snoc, vals_snoc, ← HPC.out.2]; exact HC3.out, HJ3.out, Eq.mp (congrArg (fun y : (Int × Int) × Int => SInv L (p, q) n (k + 1) (O ++ [((p, q), n)] ++ [y]) true) HZ.out) (HIN.out.s7 HKLL.out (Eq.mpr (congrArg (fun y : (Int × Int) × Int => ¬ pb y.1 (p, q)) HZ.out) HTB.out) (fun e => HPQ.out ((congrArg Prod.fst HZ.out).symm.trans e)))⟩
      · obtain rfl : k = N := by omega
        have hgoI : ¬ (k : Int) < (k : Int) := by omega
        have HKN : Hid (k = L.length) := Lib.hid HN.out.symm
        cases d with
        | true =>
          obtain ⟨ka0, ka1, _, _⟩ := drcell (HKEY.out wr HJwr.out).cells
          obtain ⟨qa0, qa1⟩ := HBX.out wr HJwr.out
          go_wp2_with fail
          go_quiet (fail)
          have HJwq : Hid (Below w0.heap.size w0 (wr.drewN nq)) := Lib.hid (below_drewN' HJwr.out _)
          have HOwq : Hid (ownE pairE (wr.drewN nq) w0.heap.size u6 P0) := Lib.hid (HOwr.out.drewN _)
          have HCwq : Hid (ownE intE (wr.drewN nq) w0.heap.size u7 C0) := Lib.hid (HCwr.out.drewN _)
          clear ka0 ka1 qa0 qa1
          generalize wr.drewN nq = wq at *
          obtain ⟨kb0, kb1, _, _⟩ := drcell (HKEY.out wq HJwq.out).cells
          obtain ⟨qb0, qb1⟩ := HBX.out wq HJwq.out
          go_wp2_with fail
          go_quiet (fail)
          have HJwy : Hid (Below w0.heap.size w0 (wq.drewN nq)) := Lib.hid (below_drewN' HJwq.out _)
          have HOwy : Hid (ownE pairE (wq.drewN nq) w0.heap.size u6 P0) := Lib.hid (HOwq.out.drewN _)
          have HCwy : Hid (ownE intE (wq.drewN nq) w0.heap.size u7 C0) := Lib.hid (HCwq.out.drewN _)
          clear kb0 kb1 qb0 qb1
          generalize wq.drewN nq = wy at *
          go_wp2
          go_roundw
          case measure => simp [intOf] <;> omega
          case rel => exact ⟨k + 1, O, true, by simp, rfl, by rw [← HPC.out.1]; exact HOwy.out, by rw [← HPC.out.2]; exact HCwy.out, HJwy.out, HIN.out.s1 HKN.out⟩
        | false =>
          obtain ⟨ka0, ka1, _, _⟩ := drcell (HKEY.out wr HJwr.out).cells
          obtain ⟨qa0, qa1⟩ := HBX.out wr HJwr.out
          go_wp2_with fail
          go_quiet (fail)
          have HJwq : Hid (Below w0.heap.size w0 (wr.drewN nq)) := Lib.hid (below_drewN' HJwr.out _)
          have HOwq : Hid (ownE pairE (wr.drewN nq) w0.heap.size u6 P0) := Lib.hid (HOwr.out.drewN _)
          have HCwq : Hid (ownE intE (wr.drewN nq) w0.heap.size u7 C0) := Lib.hid (HCwr.out.drewN _)
          clear ka0 ka1 qa0 qa1
          generalize wr.drewN nq = wq at *
          obtain ⟨kb0, kb1, _, _⟩ := drcell (HKEY.out wq HJwq.out).cells
          obtain ⟨qb0, qb1⟩ := HBX.out wq HJwq.out
          have HEa : Hid (eltsAt pairE (wq.alloc (.cells #[.int .i64 p, .int .i64 q] 37)) (.slice (some ⟨wq.heap.size, 0, none⟩) 1 1) [(p, q)]) := Lib.hid (one_elt pairE wq (p, q))
          have HOa : Hid (ownE pairE (wq.alloc (.cells #[.int .i64 p, .int .i64 q] 37)) w0.heap.size u6 P0) := Lib.hid (HOwq.out.alloc _)
          have HCa : Hid (ownE intE (wq.alloc (.cells #[.int .i64 p, .int .i64 q] 37)) w0.heap.size u7 C0) := Lib.hid (HCwq.out.alloc _)
          have HJa : Hid (Below w0.heap.size w0 (wq.alloc (.cells #[.int .i64 p, .int .i64 q] 37))) := Lib.hid (HJwq.out.alloc HJwq.out.size _)
          go_wp2_with (first
            | (at_builtin
               refine wpList_append_elts intE rfl (.tmp 48) (.tmp 50) rfl w0.heap.size u7 _ C0 [n] rfl rfl HCb.out HEb.out (someNone _ _ _) (by have := HCl.out; simp only [List.length_singleton]; omega) HJb.out.size ?_
               intro r8 w8 ho8 hg8 _
               have HOw8 : Hid (ownE pairE w8 w0.heap.size r7 (P0 ++ [(p, q)])) := Lib.hid (down_pairs HOb.out HCb.out hg8)
               have HCw8 : Hid (ownE intE w8 w0.heap.size r8 (C0 ++ [n])) := Lib.hid ho8
               have HJw8 : Hid (Below w0.heap.size w0 w8) := Lib.hid (dbelow_own2 HJb.out hg8 HCb.out)
               clear ho8 hg8)
            | (at_builtin
               refine wpList_append_elts pairE rfl (.tmp 44) (.tmp 46) rfl w0.heap.size u6 _ P0 [(p, q)] rfl rfl HOa.out HEa.out (someNone _ _ _) (by have := HPl.out; simp only [List.length_singleton]; omega) HJa.out.size ?_
               intro r7 w7 ho7 hg7 _
               have HOb : Hid (ownE pairE (w7.alloc (.cells #[.int .i64 n] 3)) w0.heap.size r7 (P0 ++ [(p, q)])) := Lib.hid (ho7.alloc _)
               have HCb : Hid (ownE intE (w7.alloc (.cells #[.int .i64 n] 3)) w0.heap.size u7 C0) := Lib.hid ((down_ints HOa.out HCa.out hg7).alloc _)
               have HEb : Hid (eltsAt intE (w7.alloc (.cells #[.int .i64 n] 3)) (.slice (some ⟨w7.heap.size, 0, none⟩) 1 1) [n]) := Lib.hid (one_elt intE w7 n)
               have HJ7 : Hid (Below w0.heap.size w0 w7) := Lib.hid (dbelow_own2 HJa.out hg7 HOa.out)
               have HJb : Hid (Below w0.heap.size w0 (w7.alloc (.cells #[.int .i64 n] 3))) := Lib.hid (HJ7.out.alloc HJ7.out.size _)
               clear ho7 hg7))
          clear HEa HOa HCa HJa HOb HCb HEb HJ7 HJb
          clear kb0 kb1 qb0 qb1
          obtain ⟨kc0, kc1, _, _⟩ := drcell (HKEY.out w8 HJw8.out).cells
          obtain ⟨qc0, qc1⟩ := HBX.out w8 HJw8.out
          go_quiet (fail)
          have HJwy : Hid (Below w0.heap.size w0 (w8.drewN nq)) := Lib.hid (below_drewN' HJw8.out _)
          have HOwy : Hid (ownE pairE (w8.drewN nq) w0.heap.size r7 (P0 ++ [(p, q)])) := Lib.hid (HOw8.out.drewN _)
          have HCwy : Hid (ownE intE (w8.drewN nq) w0.heap.size r8 (C0 ++ [n])) := Lib.hid (HCw8.out.drewN _)
          clear kc0 kc1 qc0 qc1
          generalize w8.drewN nq = wy at *
          go_wp2
          go_roundw
          case measure => simp [intOf] <;> omega
          case rel => exact ⟨k + 1, O ++ [((p, q), n)], true, by simp, rfl, by rw [keys_snoc, ← HPC.out.1]; exact HOwy.out, by rw [vals_snoc, ← HPC.out.2]; exact HCwy.out, HJwy.out, HIN.out.s2 HKN.out⟩
    · have hleI : ¬ (k : Int) ≤ (N : Int) := by omega
      obtain rfl : d = true := hlast.resolve_left hle
      have HM : Hid (O = setC L (p, q) n) := Lib.hid (by
        have := HIN.out.rest
        rw [List.drop_of_length_le (by rw [HN.out]; omega)] at this
        simpa [delC] using this)
      obtain ⟨oa, oc, hof, _⟩ := HOwr.out.form
      obtain ⟨ma, mc, hmf, _⟩ := HCwr.out.form
      rw [keysC_len] at hof
      rw [valsC_len] at hmf
      obtain ⟨ON, hON⟩ : ∃ ON, O.length = ON := ⟨_, rfl⟩
      rw [hON] at hof hmf
      clear hON hO hkN hlast
      subst hof
      subst hmf
      have hcell := (HKEY.out wr HJwr.out).cells
      have HCE := Lib.hid hcell
      obtain ⟨c0, c1, f0, f1⟩ := drcell hcell
      obtain ⟨d0, d1, g0, g1⟩ := drcell (heap_setCell_at (i := 0) hcell (.slice oa ON oc))
      clear hcell
      go_wp2
      go_end0
      exact ⟨rfl, by rw [← HM.out]; exact rset_end HB0.out HKL.out.1 HKL.out.2 HJwr.out HCE.out HOwr.out HCwr.out⟩
end Go.Proofs.YtejcemmhhpbchaaGreat
/- The document's Add. -/
namespace Go.Proofs.YtejcemmhhpbchaaGreat
open Go.RowKit Go.Maps

set_option maxRecDepth 100000 in
theorem RSRet.from {base K : Nat} {L : Cn} {w w1 w2 : World} (hb : Below w.heap.size w w1) (h : RSRet base K L w1 w2) : RSRet base K L w w2 := by
  obtain ⟨v, u, hr, hk⟩ := h
  exact ⟨v, u, hr, (Kept.of_below (S := fun k => k = K) hb (Nat.le_refl _)).trans hk fun _ _ h => h⟩
set_option maxRecDepth 100000 in
theorem RSRet.of_below {base K : Nat} {v u : Value} {L : Cn} {w w' : World} (h : Rct w base K v u L) (hb : Below w.heap.size w w') : RSRet base K L w w' := ⟨v, u, h.below hb, Kept.of_below hb (Nat.le_refl _)⟩
set_option maxRecDepth 100000 in
set_option maxHeartbeats 4000000 in
theorem dradd_any (base K : Nat) (v u : Value) (L : Cn) (p q b t : Int) (w : World) (h : Rct w base K v u L) (hg : GoodC L) (hb : FitsZ b) (ht : FitsZ t) (hl : L.length ≤ 1000) :
    Calls Tryz.prog 37 #[.pointer (some ⟨K, 0, none⟩), .agg #[.int .i64 p, .int .i64 q], .int .i64 b, .int .i64 t] w fun e w' => e = .returned (.int .i64 (addC L (p, q) b t).2) ∧ RSRet base K (addC L (p, q) b t).1 w w' := by
  unfold addC
  by_cases h0 : t < 0
  · rw [if_pos h0]
    have HR : Hid (RSRet base K L w (w.alloc (.cells #[.int .i64 p, .int .i64 q] 37))) := Lib.hid (RSRet.of_below h ((Below.refl _ w).alloc (Nat.le_refl _) _))
    clear h hg
    go_enter Tryz.func37, Tryz.ntmps37
    go_wp2
    go_ret
    exact ⟨rfl, HR.out⟩
  · rw [if_neg h0]
    obtain ⟨w1, hw1⟩ : ∃ w1, w1 = w.alloc (.cells #[.int .i64 p, .int .i64 q] 37) := ⟨_, rfl⟩
    have h1 : Rct w1 base K v u L := by rw [hw1]; exact h.alloc _
    have HB : Hid (Below w.heap.size w w1) := Lib.hid (by rw [hw1]; exact (Below.refl _ w).alloc (Nat.le_refl _) _)
    have b0 : w1.cell? ⟨w.heap.size, 0, none⟩ = some (.int .i64 p) := by rw [hw1]; simp
    have b1 : w1.cell? ⟨w.heap.size, 1, none⟩ = some (.int .i64 q) := by rw [hw1]; simp
    have hlt : w.heap.size < w1.heap.size := by rw [hw1]; simp
    have hgc := hg.get (p, q)
    have cG := rget_any base K v u L p q w1 h1 (by omega)
    have HS : Hid (∀ W n, Below w1.heap.size w1 W → Calls Tryz.prog 54 #[.pointer (some ⟨K, 0, none⟩), .agg #[.int .i64 p, .int .i64 q], .int .i64 n] W fun e w' => e = .returned (.tuple #[]) ∧ RSRet base K (setC L (p, q) n) W w') := Lib.hid (fun W n hW => rset_any base K v u L p q n W (h1.below hW) hl)
    have HR : Hid (Rct w1 base K v u L) := Lib.hid h1
    have hw' := hw1.symm
    unfold movOf
    generalize getC L (p, q) = c at *
    clear h h1 hw1 hg
    by_cases hbp : 0 ≤ b
    · rw [if_pos hbp]
      have cM := fun w => refMul_any b t w hb.1 hb.2 ht.1 ht.2
      have hin := mulOf_in b t
      generalize mulOf b t = s at *
      obtain ⟨d, ok⟩ := s
      simp only at hin cM
      cases ok with
      | false =>
        simp only [cond_false]
        clear hin
        go_enter Tryz.func37, Tryz.ntmps37
        go_wp2_with fail
        refine cG.mono ?_
        rintro e w2 ⟨rfl, n2, hw2⟩
        have HB2 : Hid (Below w1.heap.size w1 w2) := Lib.hid (by rw [hw2]; exact below_drewN' ((Below.refl _ w1).alloc (Nat.le_refl _) _) _)
        clear hw2
        go_wp2_with (go_at_call 47; refine (cM _).mono ?_; rintro e w3 ⟨rfl, rfl⟩)
        go_ret
        exact ⟨rfl, RSRet.from HB.out (RSRet.of_below HR.out HB2.out)⟩
      | true =>
        simp only [cond_true]
        have cA := fun w => refAdd_any c d w (by omega) hgc.2 (by omega) hin.2
        generalize addOf c d = y at *
        obtain ⟨y1, y2⟩ := y
        simp only at cA ⊢
        cases y2 with
        | false =>
          simp only [cond_false]
          go_enter Tryz.func37, Tryz.ntmps37
          go_wp2_with fail
          refine cG.mono ?_
          rintro e w2 ⟨rfl, n2, hw2⟩
          have HB2 : Hid (Below w1.heap.size w1 w2) := Lib.hid (by rw [hw2]; exact below_drewN' ((Below.refl _ w1).alloc (Nat.le_refl _) _) _)
          clear hw2
          go_wp2_with (first | (go_at_call 47; refine (cM _).mono ?_; rintro e w3 ⟨rfl, rfl⟩) | (go_at_call 48; refine (cA _).mono ?_; rintro e w3 ⟨rfl, rfl⟩))
          go_ret
          exact ⟨rfl, RSRet.from HB.out (RSRet.of_below HR.out HB2.out)⟩
        | true =>
          simp only [cond_true]
          go_enter Tryz.func37, Tryz.ntmps37
          go_wp2_with fail
          refine cG.mono ?_
          rintro e w2 ⟨rfl, n2, hw2⟩
          have HB2 : Hid (Below w1.heap.size w1 w2) := Lib.hid (by rw [hw2]; exact below_drewN' ((Below.refl _ w1).alloc (Nat.le_refl _) _) _)
          have e0 : w2.cell? ⟨w.heap.size, 0, none⟩ = some (.int .i64 p) := (HB2.out.cell hlt).trans b0
          have e1 : w2.cell? ⟨w.heap.size, 1, none⟩ = some (.int .i64 q) := (HB2.out.cell hlt).trans b1
          have cS := HS.out w2 y1 HB2.out
          clear hw2
          go_wp2_with (first | (go_at_call 47; refine (cM _).mono ?_; rintro e w3 ⟨rfl, rfl⟩) | (go_at_call 48; refine (cA _).mono ?_; rintro e w3 ⟨rfl, rfl⟩) | (go_at_call 54; refine cS.mono ?_; rintro e w4 ⟨rfl, hr4⟩; have HR4 := Lib.hid hr4; clear hr4))
          go_ret
          exact ⟨rfl, RSRet.from HB.out (RSRet.from HB2.out HR4.out)⟩
    · rw [if_neg hbp]
      have hw := negW_wrap hb
      have hn := negW_fits hb
      have cM := fun w => refMul_any (negW b) t w hn.1 hn.2 ht.1 ht.2
      have hin := mulOf_in (negW b) t
      generalize negW b = nb at *
      generalize mulOf nb t = s at *
      obtain ⟨d, ok⟩ := s
      simp only at hin cM
      cases ok with
      | false =>
        simp only [cond_false]
        clear hin
        go_enter Tryz.func37, Tryz.ntmps37
        go_wp2_with fail
        refine cG.mono ?_
        rintro e w2 ⟨rfl, n2, hw2⟩
        have HB2 : Hid (Below w1.heap.size w1 w2) := Lib.hid (by rw [hw2]; exact below_drewN' ((Below.refl _ w1).alloc (Nat.le_refl _) _) _)
        clear hw2
        go_wp2_with (go_at_call 47; refine (cM _).mono ?_; rintro e w3 ⟨rfl, rfl⟩)
        go_ret
        exact ⟨rfl, RSRet.from HB.out (RSRet.of_below HR.out HB2.out)⟩
      | true =>
        simp only [cond_true]
        by_cases hd : d ≤ c
        · rw [if_pos hd]
          simp only [cond_true]
          have hd' : ¬ c < d := by omega
          go_enter Tryz.func37, Tryz.ntmps37
          go_wp2_with fail
          refine cG.mono ?_
          rintro e w2 ⟨rfl, n2, hw2⟩
          have HB2 : Hid (Below w1.heap.size w1 w2) := Lib.hid (by rw [hw2]; exact below_drewN' ((Below.refl _ w1).alloc (Nat.le_refl _) _) _)
          have e0 : w2.cell? ⟨w.heap.size, 0, none⟩ = some (.int .i64 p) := (HB2.out.cell hlt).trans b0
          have e1 : w2.cell? ⟨w.heap.size, 1, none⟩ = some (.int .i64 q) := (HB2.out.cell hlt).trans b1
          have cS := HS.out w2 (c - d) HB2.out
          clear hw2
          go_wp2_with (first | (go_at_call 47; refine (cM _).mono ?_; rintro e w3 ⟨rfl, rfl⟩) | (go_at_call 54; refine cS.mono ?_; rintro e w4 ⟨rfl, hr4⟩; have HR4 := Lib.hid hr4; clear hr4))
          go_ret
          exact ⟨rfl, RSRet.from HB.out (RSRet.from HB2.out HR4.out)⟩
        · rw [if_neg hd]
          simp only [cond_false]
          have hd' : c < d := by omega
          go_enter Tryz.func37, Tryz.ntmps37
          go_wp2_with fail
          refine cG.mono ?_
          rintro e w2 ⟨rfl, n2, hw2⟩
          have HB2 : Hid (Below w1.heap.size w1 w2) := Lib.hid (by rw [hw2]; exact below_drewN' ((Below.refl _ w1).alloc (Nat.le_refl _) _) _)
          clear hw2
          go_wp2_with (go_at_call 47; refine (cM _).mono ?_; rintro e w3 ⟨rfl, rfl⟩)
          go_ret
          exact ⟨rfl, RSRet.from HB.out (RSRet.of_below HR.out HB2.out)⟩
end Go.Proofs.YtejcemmhhpbchaaGreat
