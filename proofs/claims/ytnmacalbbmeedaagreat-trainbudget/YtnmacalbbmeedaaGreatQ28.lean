/- Texts in one: LzOrd, EHeapD. -/
import Derived.Test.YtnmacalbbmeedaaGreatQ27
import Derived.Test.YtnmacalbbmeedaaGreatQ11
/- The order of a queue's entries: a function that reads a table. -/
namespace Go.Proofs.YtnmacalbbmeedaaGreat
open Go.RowKit Go.Maps Go.Shelf
open Go.Sort (grow grow_empty grow_grow alloc_eq_grow heap_grow_old)

set_option maxRecDepth 100000 in
theorem item_neq_yes {p q n r s m : Int} (h : ¬ (p, q, n) = (r, s, m)) (w : World) : (binOp .neq 79 (.agg #[.int .i64 p, .int .i64 q, .int .i64 n]) (.agg #[.int .i64 r, .int .i64 s, .int .i64 m])).run Tryz.prog w = .ok (.bool true) w := by
  have u48 := Tryz.underlying79
  have u41 := Tryz.underlying77
  have u3 := Tryz.underlying3
  by_cases e : p = r
  · subst e
    by_cases e2 : q = s
    · subst e2
      have e3 : ¬ n = m := fun k => h (by rw [k])
      simp [go_sem, u48, u41, u3, e3]
    · simp [go_sem, u48, u41, u3, e2]
  · simp [go_sem, u48, u41, u3, e]
set_option maxRecDepth 100000 in
theorem item_neq_no (p q n : Int) (w : World) : (binOp .neq 79 (.agg #[.int .i64 p, .int .i64 q, .int .i64 n]) (.agg #[.int .i64 p, .int .i64 q, .int .i64 n])).run Tryz.prog w = .ok (.bool false) w := by
  have u48 := Tryz.underlying79
  have u41 := Tryz.underlying77
  have u3 := Tryz.underlying3
  simp [go_sem, u48, u41, u3]
set_option maxRecDepth 100000 in
theorem ccmp_self (a : Int) : ccmpI a a = 0 := by unfold ccmpI; simp
abbrev ordV (c : Nat) : Value := fnV 69 #[.pointer (some ⟨c, 0, none⟩)]
set_option maxRecDepth 100000 in
theorem order_any (K : Nat) (w : World) : Calls Tryz.prog 51 #[.pointer (some ⟨K, 0, none⟩)] w fun e w' => e = .returned (ordV w.heap.size) ∧ w' = w.alloc (.cells #[.pointer (some ⟨K, 0, none⟩)] 66) := by
  go_enter Tryz.func51, Tryz.ntmps51
  go_wp2
  go_ret
  exact ⟨rfl, rfl⟩
set_option maxRecDepth 100000 in
set_option maxHeartbeats 4000000 in
theorem ordc_any (K : Nat) (v : Value) (b : Option Nat) (J : List Joint) (c : Nat) (x y : Ent) (w : World) (h : Env w K v b J c) (hx : FitsE x) (hy : FitsE y) :
    Calls Tryz.prog 69 #[entV x, entV y, .pointer (some ⟨c, 0, none⟩)] w fun e w' => e = .returned (.bool (entBetter J x y)) ∧ Grown w w' := by
  have hx1 := fits_form hx
  have hy1 := fits_form hy
  have fx := hx.2
  have fy := hy.2
  obtain ⟨⟨p, q, n⟩, ep⟩ : ∃ i, itemOf x = i := ⟨_, rfl⟩
  obtain ⟨⟨r, s, m⟩, er⟩ : ∃ i, itemOf y = i := ⟨_, rfl⟩
  rw [ep] at hx1 fx
  rw [er] at hy1 fy
  subst hx1
  subst hy1
  rw [entBetter_ent]
  unfold entV entOf
  simp only
  obtain ⟨wb, hwb⟩ : ∃ wb, (w.alloc (.cells #[.int .i64 p, .int .i64 q, .int .i64 n, .int .i64 p, .int .i64 q, .int .i64 n] 111)).alloc (.cells #[.int .i64 r, .int .i64 s, .int .i64 m, .int .i64 r, .int .i64 s, .int .i64 m] 111) = wb := ⟨_, rfl⟩
  have HGB : Hid (Grown w wb) := Lib.hid (by rw [← hwb]; exact ((Grown.refl w).alloc _).alloc _)
  have hB := h.grown HGB.out
  have cb := hB.cell
  have u0 : wb.cell? ⟨w.heap.size, 0, none⟩ = some (.int .i64 p) := by rw [← hwb]; simp
  have u1 : wb.cell? ⟨w.heap.size, 1, none⟩ = some (.int .i64 q) := by rw [← hwb]; simp
  have u2 : wb.cell? ⟨w.heap.size, 2, none⟩ = some (.int .i64 n) := by rw [← hwb]; simp
  have u3 : wb.cell? ⟨w.heap.size, 3, none⟩ = some (.int .i64 p) := by rw [← hwb]; simp
  have u4 : wb.cell? ⟨w.heap.size, 4, none⟩ = some (.int .i64 q) := by rw [← hwb]; simp
  have u5 : wb.cell? ⟨w.heap.size, 5, none⟩ = some (.int .i64 n) := by rw [← hwb]; simp
  have v0 : wb.cell? ⟨w.heap.size + 1, 0, none⟩ = some (.int .i64 r) := by rw [← hwb]; simp
  have v1 : wb.cell? ⟨w.heap.size + 1, 1, none⟩ = some (.int .i64 s) := by rw [← hwb]; simp
  have v2 : wb.cell? ⟨w.heap.size + 1, 2, none⟩ = some (.int .i64 m) := by rw [← hwb]; simp
  have v3 : wb.cell? ⟨w.heap.size + 1, 3, none⟩ = some (.int .i64 r) := by rw [← hwb]; simp
  have v4 : wb.cell? ⟨w.heap.size + 1, 4, none⟩ = some (.int .i64 s) := by rw [← hwb]; simp
  have v5 : wb.cell? ⟨w.heap.size + 1, 5, none⟩ = some (.int .i64 m) := by rw [← hwb]; simp
  by_cases he : (p, q, n) = (r, s, m)
  · have e1 : p = r := congrArg (·.1) he
    have e2 : q = s := congrArg (·.2.1) he
    have e3 : n = m := congrArg (·.2.2) he
    subst e1 e2 e3
    rw [better_irrefl]
    have hno := item_neq_no p q n
    have HC : Hid (∀ W, Grown wb W → W.cell? ⟨w.heap.size, 0, none⟩ = some (.int .i64 p) ∧ W.cell? ⟨w.heap.size, 1, none⟩ = some (.int .i64 q) ∧ W.cell? ⟨w.heap.size + 1, 0, none⟩ = some (.int .i64 p) ∧ W.cell? ⟨w.heap.size + 1, 1, none⟩ = some (.int .i64 q)) := Lib.hid fun W h => ⟨h.cell u0, h.cell u1, h.cell v0, h.cell v1⟩
    clear h hB cb ep er fx fy hx hy he
    go_enter Tryz.func69, Tryz.ntmps69
    go_wp2_with fail
    go_region_held3 (fun w' => w'.cell? ⟨w.heap.size, 0, none⟩ = some (.int .i64 p) ∧ w'.cell? ⟨w.heap.size, 1, none⟩ = some (.int .i64 q) ∧ w'.cell? ⟨w.heap.size + 1, 0, none⟩ = some (.int .i64 p) ∧ w'.cell? ⟨w.heap.size + 1, 1, none⟩ = some (.int .i64 q)) (first | exact ⟨u0, u1, v0, v1⟩ | with_reducible exact HC.out _ ((Grown.refl wb).alloc _).drew | with_reducible exact HC.out _ ((Grown.refl wb).drew.alloc _) | with_reducible exact HC.out _ ((Grown.refl wb).alloc _)) (first
      | (go_at_call 72
         refine (ccmpI_any _ _ _).mono ?_
         rintro e w5 ⟨rfl, rfl⟩
         rw [ccmp_self])
      | (go_at_call 71
         refine (or_any 0 0 _ _ (by simp) (by simp)).mono ?_
         rintro e w6 ⟨rfl, rfl⟩))
    all_goals go_wp2
    all_goals go_ret
    all_goals exact ⟨rfl, HGB.out.trans (((Grown.refl wb).drew.alloc _))⟩
  · have hyes := item_neq_yes he
    have cB := better_any K v b J (p, q, n) (r, s, m) wb hB.tab hB.few fx fy
    unfold itemV at cB
    simp only at cB
    generalize betterOf J (p, q, n) (r, s, m) = z at *
    clear h hB ep er fx fy hx hy he
    go_enter Tryz.func69, Tryz.ntmps69
    go_wp2_with fail
    refine cB.mono ?_
    rintro e w1 ⟨rfl, hg⟩
    have HG := Lib.hid hg
    clear hg
    go_wp2
    go_ret
    exact ⟨rfl, HGB.out.trans HG.out⟩
end Go.Proofs.YtnmacalbbmeedaaGreat
/- Pushed. -/
namespace Go.Proofs.YtnmacalbbmeedaaGreat
open Go.RowKit Go.Shelf
open Go.Sort (grow grow_empty grow_grow alloc_eq_grow heap_grow_old)
variable {w w' : World} {B K : Nat} {fv v : Value} {A : List Ent} {pu pk : Int} {bt : Ent → Ent → Bool} {E : World → Prop} {Bk : Nat → Prop}

set_option maxRecDepth 100000 in
theorem Hp.mono {B' : Nat} (h : Hp w B K fv v A pu pk) (hB : B' ≤ B) : Hp w B' K fv v A pu pk := ⟨h.box, h.row.mono hB, h.few, Nat.le_trans hB h.base, h.fits⟩
set_option maxRecDepth 100000 in
theorem Hp.app {w3 : World} {r : Value} {x : Ent} (h : Hp w B K fv v A pu pk) (ho : ownE entE w3 B r (A ++ [x])) (hg : w.grownBy w3 v.ownBlock) (hr : r.ownBlock = v.ownBlock ∨ r.ownBlock = some w.heap.size) (hf : A.length + 1 ≤ 100000) (hx : FitsE x) :
    Hp (w3.setCell ⟨K, 1, none⟩ r) B K fv r (A ++ [x]) pu pk := by
  have hK3 := (hg.block K h.ltK (fun e => h.apart e.symm)).trans h.box
  refine ⟨(heap_setCell_at hK3 r).trans rfl, ho.kept fun g hgr => Below.heap_setCell _ ⟨K, 1, none⟩ _ g ?_, by simpa using hf, h.base, fun y hy => by
    rcases List.mem_append.1 hy with hy | hy
    · exact h.fits y hy
    · rw [List.mem_singleton] at hy; subst hy; exact hx⟩
  intro e
  have e' : g = K := e
  subst e'
  rcases hr with hr | hr
  · exact h.apart (hr.symm.trans hgr)
  · rw [hr] at hgr
    have := h.ltK
    cases hgr
    omega
set_option maxRecDepth 100000 in
theorem Hp.setPu (h : Hp w B K fv v A pu pk) (z : Int) : Hp (w.setCell ⟨K, 2, none⟩ (.int .i64 z)) B K fv v A z pk :=
  ⟨(heap_setCell_at h.box _).trans rfl, h.row.kept fun g hg => Below.heap_setCell _ ⟨K, 2, none⟩ _ g (fun e => h.apart (by rw [hg]; exact congrArg _ e)), h.few, h.base, h.fits⟩
set_option maxRecDepth 100000 in
theorem Hp.setPk (h : Hp w B K fv v A pu pk) (z : Int) : Hp (w.setCell ⟨K, 3, none⟩ (.int .i64 z)) B K fv v A pu z :=
  ⟨(heap_setCell_at h.box _).trans rfl, h.row.kept fun g hg => Below.heap_setCell _ ⟨K, 3, none⟩ _ g (fun e => h.apart (by rw [hg]; exact congrArg _ e)), h.few, h.base, h.fits⟩
/-- Behind a push. -/
def PushRet (w : World) (B K : Nat) (fv v : Value) (A : List Ent) (x : Ent) (pu pk : Int) (bt : Ent → Ent → Bool) (e : Ending) (w' : World) : Prop :=
  e = .returned (.tuple #[]) ∧ ∃ v' A', A'.Perm (A ++ [x]) ∧ HeapFrom bt A' 0 ∧ Hp w' B K fv v' A' (pu + 1) (max pk ((A.length + 1 : Nat) : Int)) ∧ Kept (mine K v) w w' ∧ Moved v v' w.heap.size
set_option maxRecDepth 100000 in
theorem push_kept {w1 w3 w6 : World} (hg1 : Grown w w1) (hg : w1.grownBy w3 v.ownBlock) (h6 : Kept (fun k => k = K) w3 w6) : Kept (mine K v) w w6 :=
  (((Kept.refl (mine K v) w).grow hg1).grown hg fun _ hk _ => .inr hk.symm).trans h6 fun _ _ e => .inl e
set_option maxRecDepth 100000 in
theorem push_apart {n : Nat} {r : Value} (hap : ∀ k, mine K v k → ¬ Bk k) (hr : r.ownBlock = v.ownBlock ∨ r.ownBlock = some n) (hn : ¬ Bk n) : ∀ k, mine K r k → ¬ Bk k := by
  rintro k (e | e)
  · exact hap k (.inl e)
  · rcases hr with hr | hr
    · exact hap k (.inr (by rw [e, hr]))
    · rw [hr] at e
      cases e
      exact hn
set_option maxRecDepth 100000 in
theorem push_end {w1 w3 w6 : World} {r : Value} {x : Ent} {e : Ending} (hg1 : Grown w w1) (hg : w1.grownBy w3 v.ownBlock) (hr : r.ownBlock = v.ownBlock ∨ r.ownBlock = some w1.heap.size)
    (h6 : Kept (fun k => k = K) w3 w6) (hs : SinkRet w6 B K fv r (A ++ [x]) (pu + 1) (max pk ((A.length + 1 : Nat) : Int)) bt 0 e w') : PushRet w B K fv v A x pu pk bt e w' := by
  obtain ⟨he, A', hp, hh, ho, hk⟩ := hs
  have hz := hg1.below.size
  refine ⟨he, r, A', hp, hh, ho, ?_, ?_⟩
  · refine ((((Kept.refl (mine K v) w).grow hg1).grown hg fun k hk _ => .inr hk.symm).trans h6 fun _ _ e => .inl e).trans hk fun i hi e => ?_
    rcases hr with hr | hr
    · exact .inr (by rw [← hr, e])
    · rw [hr] at e
      cases e
      omega
  · rcases hr with hr | hr
    · exact .inl hr
    · refine .inr fun g hg => ?_
      rw [hr] at hg
      cases hg
      exact hz
set_option maxRecDepth 100000 in
theorem kept_three (w : World) (K : Nat) (a b c : Value) : Kept (fun k => k = K) w (((w.setCell ⟨K, 1, none⟩ a).setCell ⟨K, 2, none⟩ b).setCell ⟨K, 3, none⟩ c).drew := by
  have hS : ∀ i, (fun k => k = K) (⟨K, i, none⟩ : Addr).block := fun _ => rfl
  exact ((((Kept.refl (fun k => k = K) w).setCell ⟨K, 1, none⟩ a fun _ => hS 1).setCell ⟨K, 2, none⟩ b fun _ => hS 2).setCell ⟨K, 3, none⟩ c fun _ => hS 3).drew
set_option maxRecDepth 100000 in
set_option maxHeartbeats 800000 in
theorem push_any {g : Nat} {lb : Array Value} (b : Bet g lb bt E Bk) (x : Ent) (h : Hp w B K (fnV g lb) v A pu pk) (hE : E w) (hap : ∀ k, mine K v k → ¬ Bk k) (hx : FitsE x) (hH : HeapFrom bt A 0) (hA : A.length < 100000) (hu : 0 ≤ pu ∧ pu ≤ 1000000) :
    Calls Tryz.prog 73 #[.pointer (some ⟨K, 0, none⟩), entV x] w (PushRet w B K (fnV g lb) v A x pu pk bt) := by
  obtain ⟨x1, x2, x3, x4, x5, x6⟩ := x
  have HBet := Lib.hid b
  have HE := Lib.hid hE; have HAP := Lib.hid hap; have HXX := Lib.hid hx
  have HHp := Lib.hid hH
  obtain ⟨N, hN⟩ : ∃ N, w.heap.size = N := ⟨_, rfl⟩
  obtain ⟨wa, hwa⟩ : ∃ wa, w.alloc (.cells #[.int .i64 x1, .int .i64 x2, .int .i64 x3, .int .i64 x4, .int .i64 x5, .int .i64 x6] 111) = wa := ⟨_, rfl⟩
  have hga : Grown w wa := by rw [← hwa]; exact alloc_grown w _
  have HGA := Lib.hid hga
  have hna : wa.heap.size = N + 1 := by rw [← hwa, World.size_alloc, hN]
  have hba : wa.heap[N]? = some (.cells #[.int .i64 x1, .int .i64 x2, .int .i64 x3, .int .i64 x4, .int .i64 x5, .int .i64 x6] 111 (0, 0)) := by rw [← hwa, ← hN]; exact heap_alloc_new w _
  obtain ⟨wc, hwc⟩ : ∃ wc, wa.alloc (.cells #[.int .i64 x1, .int .i64 x2, .int .i64 x3, .int .i64 x4, .int .i64 x5, .int .i64 x6] 111) = wc := ⟨_, rfl⟩
  have hbc : wc.heap[N]? = some (.cells #[.int .i64 x1, .int .i64 x2, .int .i64 x3, .int .i64 x4, .int .i64 x5, .int .i64 x6] 111 (0, 0)) := by rw [← hwc]; exact (Below.heap_alloc _ _ _ (by omega)).trans hba
  have hgc : Grown w wc := by rw [← hwc]; exact hga.alloc _
  have HGC := Lib.hid hgc
  have hHa := h.grown hga
  have hHc := h.grown hgc
  have a0 : wa.cell? ⟨N, 0, none⟩ = some (.int .i64 x1) := by rw [cell_of_row wa N 0 _ 111 (0, 0) hba]; rfl
  have a1 : wa.cell? ⟨N, 1, none⟩ = some (.int .i64 x2) := by rw [cell_of_row wa N 1 _ 111 (0, 0) hba]; rfl
  have a2 : wa.cell? ⟨N, 2, none⟩ = some (.int .i64 x3) := by rw [cell_of_row wa N 2 _ 111 (0, 0) hba]; rfl
  have a3 : wa.cell? ⟨N, 3, none⟩ = some (.int .i64 x4) := by rw [cell_of_row wa N 3 _ 111 (0, 0) hba]; rfl
  have a4 : wa.cell? ⟨N, 4, none⟩ = some (.int .i64 x5) := by rw [cell_of_row wa N 4 _ 111 (0, 0) hba]; rfl
  have a5 : wa.cell? ⟨N, 5, none⟩ = some (.int .i64 x6) := by rw [cell_of_row wa N 5 _ 111 (0, 0) hba]; rfl
  have e0 : wc.cell? ⟨N, 0, none⟩ = some (.int .i64 x1) := by rw [cell_of_row wc N 0 _ 111 (0, 0) hbc]; rfl
  have e1 : wc.cell? ⟨N, 1, none⟩ = some (.int .i64 x2) := by rw [cell_of_row wc N 1 _ 111 (0, 0) hbc]; rfl
  have e2 : wc.cell? ⟨N, 2, none⟩ = some (.int .i64 x3) := by rw [cell_of_row wc N 2 _ 111 (0, 0) hbc]; rfl
  have e3 : wc.cell? ⟨N, 3, none⟩ = some (.int .i64 x4) := by rw [cell_of_row wc N 3 _ 111 (0, 0) hbc]; rfl
  have e4 : wc.cell? ⟨N, 4, none⟩ = some (.int .i64 x5) := by rw [cell_of_row wc N 4 _ 111 (0, 0) hbc]; rfl
  have e5 : wc.cell? ⟨N, 5, none⟩ = some (.int .i64 x6) := by rw [cell_of_row wc N 5 _ 111 (0, 0) hbc]; rfl
  obtain ⟨c0, c1, c2, c3⟩ := hHa.cells
  obtain ⟨d0, d1, d2, d3⟩ := hHc.cells
  have HHC := Lib.hid hHc
  have HL := Lib.hid hA
  have HB : Hid (B ≤ wc.heap.size) := Lib.hid (by have := hHc.ltK; have := hHc.base; omega)
  have hone : eltsAt entE wc.drew (.slice (some ⟨wa.heap.size, 0, none⟩) 1 1) [(x1, x2, x3, x4, x5, x6)] := by rw [← hwc]; exact (one_elt entE wa (x1, x2, x3, x4, x5, x6)).drew 1
  rw [hna] at hone
  have HONE := Lib.hid hone
  have hff := Tryz.isFn g lb
  have HU := Lib.hid hu
  obtain ⟨n, hn⟩ : ∃ n, A.length + 1 = n := ⟨_, rfl⟩
  have HN := Lib.hid hn
  have hw1 : IntKind.i64.wrap (pu + 1) = pu + 1 := IntWalk.i64_in _ (by omega)
  have hw2 : IntKind.i64.wrap ((n : Int) - 1) = (A.length : Int) := by rw [IntWalk.i64_in _ (by omega)]; omega
  clear h hE hap hx hH hHa hHc hone hga hgc hba hbc b hn hA hu
  unfold entV
  simp only
  go_enter Tryz.func73, Tryz.ntmps73
  go_wp2
  go_region_law
    (first | (refine step_append_elts entE rfl (.tmp 17) (.tmp 19) rfl B v (.slice (some ⟨N + 1, 0, none⟩) 1 1) A [(x1, x2, x3, x4, x5, x6)] rfl rfl HHC.out.row HONE.out (someNone _ _ _) (by have := HL.out; simp; omega) HB.out ?_; intro r w4 ho4 hg4 hr4; obtain ⟨ra, rc, rfl, _⟩ := ho4.form; rw [List.length_append, List.length_singleton] at ho4 hr4; obtain ⟨z0, zf⟩ : w4.cell? ⟨K, 1, none⟩ = some v ∧ w4.frozen? ⟨K, 1, none⟩ = false := ⟨by rw [cell_of_row w4 K 1 _ 142 (0, 0) ((hg4.block K HHC.out.ltK (fun e => HHC.out.apart e.symm)).trans HHC.out.box)]; rfl, Lib.frozen_of_heap ((hg4.block K HHC.out.ltK (fun e => HHC.out.apart e.symm)).trans HHC.out.box) _⟩; have HO4 := Lib.hid ho4; have HG4 := Lib.hid hg4; have HR4 := Lib.hid hr4; clear ho4 hg4 hr4))
  have HN2 : Hid ((A ++ [(x1, x2, x3, x4, x5, x6)]).length = n) := Lib.hid (by rw [List.length_append, List.length_singleton, HN.out])
  all_goals (
    have hP := Hp.app HHC.out.drew HO4.out HG4.out HR4.out HL.out HXX.out
    rw [HN.out] at hP ⊢
    obtain ⟨w5, hw5⟩ : ∃ w5, w4.setCell ⟨K, 1, none⟩ (.slice ra n rc) = w5 := ⟨_, rfl⟩
    rw [hw5] at hP ⊢
    obtain ⟨w6, hw6⟩ : ∃ w6, w5.setCell ⟨K, 2, none⟩ (.int .i64 (pu + 1)) = w6 := ⟨_, rfl⟩
    have hP6 := hP.setPu (pu + 1)
    rw [hw6] at hP6
    obtain ⟨w7, hw7⟩ : ∃ w7, w6.setCell ⟨K, 3, none⟩ (.int .i64 (max pk (n : Int))) = w7 := ⟨_, rfl⟩
    have hP7 := hP6.setPk (max pk (n : Int))
    rw [hw7] at hP7
    have HK : Hid (Kept (fun k => k = K) w4 w7.drew) := Lib.hid (by
      rw [← hw7, ← hw6, ← hw5]
      exact kept_three w4 K _ _ _)
    have HE7 : Hid (E w7.drew) := Lib.hid (HBet.out.kept HE.out (push_kept HGC.out.drew HG4.out HK.out) HAP.out)
    have HAP7 : Hid (∀ k, mine K (.slice ra n rc) k → ¬ Bk k) := Lib.hid (push_apart HAP.out (by have h := HR4.out; rwa [HN.out] at h) fun hb => by have h1 := HBet.out.lt w HE.out _ hb; have h2 := HGC.out.below.size; have h3 : wc.drew.heap.size = wc.heap.size := rfl; omega)
    obtain ⟨_, f1, f2, _⟩ := hP.cells
    have f4 := hP.frozen 2
    obtain ⟨_, k1, _, k3⟩ := hP6.cells
    have k4 := hP6.frozen 3
    obtain ⟨_, m1, _, _⟩ := hP7.cells
    have HP7 := Lib.hid hP7.drew
    clear hw5 hP hP6 hP7 a0 a1 a2 a3 a4 a5 e0 e1 e2 e3 e4 e5 c0 c1 c2 c3 d0 d1 d2 d3 z0 zf hwa hwc hna hN
    by_cases hm : (n : Int) > pk
    · have cR := rise_any HBet.out A.length HP7.out HE7.out HAP7.out (rk_start (x1, x2, x3, x4, x5, x6) HHp.out) (by simp)
      go_wp2
      go_region
      go_wp2_with fail
      refine cR.mono ?_
      rintro e w8 hs
      have HS := Lib.hid hs
      clear hs cR
      obtain ⟨rfl, _⟩ := id HS.out
      go_wp2
      go_end0
      exact push_end HGC.out.drew HG4.out HR4.out HK.out (by rw [HN.out]; exact HS.out)
    · have cR := rise_any HBet.out A.length HP7.out HE7.out HAP7.out (rk_start (x1, x2, x3, x4, x5, x6) HHp.out) (by simp)
      go_wp2
      go_region
      go_wp2_with fail
      refine cR.mono ?_
      rintro e w8 hs
      have HS := Lib.hid hs
      clear hs cR
      obtain ⟨rfl, _⟩ := id HS.out
      go_wp2
      go_end0
      exact push_end HGC.out.drew HG4.out HR4.out HK.out (by rw [HN.out]; exact HS.out))
end Go.Proofs.YtnmacalbbmeedaaGreat
