/- Pushed. -/
import Derived.Test.YtnonkhnajloloaaHeapC
namespace Go.Proofs.Ytnonkhnajloloaa
open Go.RowKit Go.Shelf
open Go.Sort (grow grow_empty grow_grow alloc_eq_grow heap_grow_old)
variable {w w' : World} {B K : Nat} {fv v : Value} {A : List It} {pu pk : Int} {bt : It → It → Bool}

set_option maxRecDepth 100000 in
theorem Hp.mono {B' : Nat} (h : Hp w B K fv v A pu pk) (hB : B' ≤ B) : Hp w B' K fv v A pu pk := ⟨h.box, h.row.mono hB, h.few, Nat.le_trans hB h.base⟩
set_option maxRecDepth 100000 in
theorem Hp.app {w3 : World} {r : Value} {x : It} (h : Hp w B K fv v A pu pk) (ho : ownE itE w3 B r (A ++ [x])) (hg : w.grownBy w3 v.ownBlock) (hr : r.ownBlock = v.ownBlock ∨ r.ownBlock = some w.heap.size) (hf : A.length + 1 ≤ 100000) :
    Hp (w3.setCell ⟨K, 1, none⟩ r) B K fv r (A ++ [x]) pu pk := by
  have hK3 := (hg.block K h.ltK (fun e => h.apart e.symm)).trans h.box
  refine ⟨(heap_setCell_at hK3 r).trans rfl, ho.kept fun g hgr => Below.heap_setCell _ ⟨K, 1, none⟩ _ g ?_, by simpa using hf, h.base⟩
  intro e
  have e' : g = K := e
  subst e'
  rcases hr with hr | hr
  · exact h.apart (hr.symm.trans hgr)
  · rw [hr] at hgr
    have := h.ltK
    cases hgr
    omega
set_option maxRecDepth 100000 in
theorem Hp.setPu (h : Hp w B K fv v A pu pk) (z : Int) : Hp (w.setCell ⟨K, 2, none⟩ (.int .i64 z)) B K fv v A z pk :=
  ⟨(heap_setCell_at h.box _).trans rfl, h.row.kept fun g hg => Below.heap_setCell _ ⟨K, 2, none⟩ _ g (fun e => h.apart (by rw [hg]; exact congrArg _ e)), h.few, h.base⟩
set_option maxRecDepth 100000 in
theorem Hp.setPk (h : Hp w B K fv v A pu pk) (z : Int) : Hp (w.setCell ⟨K, 3, none⟩ (.int .i64 z)) B K fv v A pu z :=
  ⟨(heap_setCell_at h.box _).trans rfl, h.row.kept fun g hg => Below.heap_setCell _ ⟨K, 3, none⟩ _ g (fun e => h.apart (by rw [hg]; exact congrArg _ e)), h.few, h.base⟩
/-- Behind a push. -/
def PushRet (w : World) (B K : Nat) (fv v : Value) (A : List It) (x : It) (pu pk : Int) (bt : It → It → Bool) (e : Ending) (w' : World) : Prop :=
  e = .returned (.tuple #[]) ∧ ∃ v' A', A'.Perm (A ++ [x]) ∧ HeapFrom bt A' 0 ∧ Hp w' B K fv v' A' (pu + 1) (max pk ((A.length + 1 : Nat) : Int)) ∧ Kept (mine K v) w w' ∧ Moved v v' w.heap.size
set_option maxRecDepth 100000 in
theorem push_end {w1 w3 w6 : World} {r : Value} {x : It} {e : Ending} (hg1 : Grown w w1) (hg : w1.grownBy w3 v.ownBlock) (hr : r.ownBlock = v.ownBlock ∨ r.ownBlock = some w1.heap.size)
    (h6 : Kept (fun k => k = K) w3 w6) (hs : SinkRet w6 B K fv r (A ++ [x]) (pu + 1) (max pk ((A.length + 1 : Nat) : Int)) bt 0 e w') : PushRet w B K fv v A x pu pk bt e w' := by
  obtain ⟨he, A', hp, hh, ho, hk⟩ := hs
  have hz := hg1.below.size
  refine ⟨he, r, A', hp, hh, ho, ?_, ?_⟩
  · refine ((((Kept.refl (mine K v) w).grow hg1).grown hg fun k hk _ => .inr hk.symm).trans h6 fun _ _ e => .inl e).trans hk fun i hi e => ?_
    rcases hr with hr | hr
    · exact .inr (by rw [← hr, e])
    · rw [hr] at e
      cases e
      omega
  · rcases hr with hr | hr
    · exact .inl hr
    · refine .inr fun g hg => ?_
      rw [hr] at hg
      cases hg
      exact hz
set_option maxRecDepth 100000 in
theorem kept_three (w : World) (K : Nat) (a b c : Value) : Kept (fun k => k = K) w (((w.setCell ⟨K, 1, none⟩ a).setCell ⟨K, 2, none⟩ b).setCell ⟨K, 3, none⟩ c).drew := by
  have hS : ∀ i, (fun k => k = K) (⟨K, i, none⟩ : Addr).block := fun _ => rfl
  exact ((((Kept.refl (fun k => k = K) w).setCell ⟨K, 1, none⟩ a fun _ => hS 1).setCell ⟨K, 2, none⟩ b fun _ => hS 2).setCell ⟨K, 3, none⟩ c fun _ => hS 3).drew
set_option maxRecDepth 100000 in
set_option maxHeartbeats 800000 in
theorem push_any {g : Nat} {lb : Array Value} (b : Bet g lb bt) (x : It) (h : Hp w B K (fnV g lb) v A pu pk) (hH : HeapFrom bt A 0) (hA : A.length < 100000) (hu : 0 ≤ pu ∧ pu ≤ 1000000) :
    Calls Try.prog 11 #[.pointer (some ⟨K, 0, none⟩), itV x] w (PushRet w B K (fnV g lb) v A x pu pk bt) := by
  obtain ⟨x1, x2⟩ := x
  have HBet := Lib.hid b
  have HHp := Lib.hid hH
  obtain ⟨N, hN⟩ : ∃ N, w.heap.size = N := ⟨_, rfl⟩
  obtain ⟨wa, hwa⟩ : ∃ wa, w.alloc (.cells #[.int .i64 x1, .int .i64 x2] 32) = wa := ⟨_, rfl⟩
  have hga : Grown w wa := by rw [← hwa]; exact alloc_grown w _
  have HGA := Lib.hid hga
  have hna : wa.heap.size = N + 1 := by rw [← hwa, World.size_alloc, hN]
  have hba : wa.heap[N]? = some (.cells #[.int .i64 x1, .int .i64 x2] 32 (0, 0)) := by rw [← hwa, ← hN]; exact heap_alloc_new w _
  obtain ⟨wc, hwc⟩ : ∃ wc, wa.alloc (.cells #[.int .i64 x1, .int .i64 x2] 32) = wc := ⟨_, rfl⟩
  have hbc : wc.heap[N]? = some (.cells #[.int .i64 x1, .int .i64 x2] 32 (0, 0)) := by rw [← hwc]; exact (Below.heap_alloc _ _ _ (by omega)).trans hba
  have hgc : Grown w wc := by rw [← hwc]; exact hga.alloc _
  have HGC := Lib.hid hgc
  have hHa := h.grown hga
  have hHc := h.grown hgc
  have a0 : wa.cell? ⟨N, 0, none⟩ = some (.int .i64 x1) := by rw [cell_of_row wa N 0 _ 32 (0, 0) hba]; rfl
  have a1 : wa.cell? ⟨N, 1, none⟩ = some (.int .i64 x2) := by rw [cell_of_row wa N 1 _ 32 (0, 0) hba]; rfl
  have e0 : wc.cell? ⟨N, 0, none⟩ = some (.int .i64 x1) := by rw [cell_of_row wc N 0 _ 32 (0, 0) hbc]; rfl
  have e1 : wc.cell? ⟨N, 1, none⟩ = some (.int .i64 x2) := by rw [cell_of_row wc N 1 _ 32 (0, 0) hbc]; rfl
  obtain ⟨c0, c1, c2, c3⟩ := hHa.cells
  obtain ⟨d0, d1, d2, d3⟩ := hHc.cells
  have HHC := Lib.hid hHc
  have HL := Lib.hid hA
  have HB : Hid (B ≤ wc.heap.size) := Lib.hid (by have := hHc.ltK; have := hHc.base; omega)
  have hone : eltsAt itE wc.drew (.slice (some ⟨wa.heap.size, 0, none⟩) 1 1) [(x1, x2)] := by rw [← hwc]; exact (one_elt itE wa (x1, x2)).drew 1
  rw [hna] at hone
  have HONE := Lib.hid hone
  have hff := Try.isFn g lb
  have HU := Lib.hid hu
  obtain ⟨n, hn⟩ : ∃ n, A.length + 1 = n := ⟨_, rfl⟩
  have HN := Lib.hid hn
  have hw1 : IntKind.i64.wrap (pu + 1) = pu + 1 := IntWalk.i64_in _ (by omega)
  have hw2 : IntKind.i64.wrap ((n : Int) - 1) = (A.length : Int) := by rw [IntWalk.i64_in _ (by omega)]; omega
  clear h hH hHa hHc hone hga hgc hba hbc b hn hA hu
  unfold itV
  simp only
  go_enter Try.func11, Try.ntmps11
  go_wp2
  go_region_law
    (first | (refine step_append_elts itE rfl (.tmp 17) (.tmp 19) rfl B v (.slice (some ⟨N + 1, 0, none⟩) 1 1) A [(x1, x2)] rfl rfl HHC.out.row HONE.out (someNone _ _ _) (by have := HL.out; simp; omega) HB.out ?_; intro r w4 ho4 hg4 hr4; obtain ⟨ra, rc, rfl, _⟩ := ho4.form; rw [List.length_append, List.length_singleton] at ho4 hr4; obtain ⟨z0, zf⟩ : w4.cell? ⟨K, 1, none⟩ = some v ∧ w4.frozen? ⟨K, 1, none⟩ = false := ⟨by rw [cell_of_row w4 K 1 _ 50 (0, 0) ((hg4.block K HHC.out.ltK (fun e => HHC.out.apart e.symm)).trans HHC.out.box)]; rfl, Lib.frozen_of_heap ((hg4.block K HHC.out.ltK (fun e => HHC.out.apart e.symm)).trans HHC.out.box) _⟩; have HO4 := Lib.hid ho4; have HG4 := Lib.hid hg4; have HR4 := Lib.hid hr4; clear ho4 hg4 hr4))
  have HN2 : Hid ((A ++ [(x1, x2)]).length = n) := Lib.hid (by rw [List.length_append, List.length_singleton, HN.out])
  all_goals (
    have hP := Hp.app HHC.out.drew HO4.out HG4.out HR4.out HL.out
    rw [HN.out] at hP ⊢
    obtain ⟨w5, hw5⟩ : ∃ w5, w4.setCell ⟨K, 1, none⟩ (.slice ra n rc) = w5 := ⟨_, rfl⟩
    rw [hw5] at hP ⊢
    obtain ⟨w6, hw6⟩ : ∃ w6, w5.setCell ⟨K, 2, none⟩ (.int .i64 (pu + 1)) = w6 := ⟨_, rfl⟩
    have hP6 := hP.setPu (pu + 1)
    rw [hw6] at hP6
    obtain ⟨w7, hw7⟩ : ∃ w7, w6.setCell ⟨K, 3, none⟩ (.int .i64 (max pk (n : Int))) = w7 := ⟨_, rfl⟩
    have hP7 := hP6.setPk (max pk (n : Int))
    rw [hw7] at hP7
    have HK : Hid (Kept (fun k => k = K) w4 w7.drew) := Lib.hid (by
      rw [← hw7, ← hw6, ← hw5]
      exact kept_three w4 K _ _ _)
    obtain ⟨_, f1, f2, _⟩ := hP.cells
    have f4 := hP.frozen 2
    obtain ⟨_, k1, _, k3⟩ := hP6.cells
    have k4 := hP6.frozen 3
    obtain ⟨_, m1, _, _⟩ := hP7.cells
    have HP7 := Lib.hid hP7.drew
    clear hw5 hP hP6 hP7 a0 a1 e0 e1 c0 c1 c2 c3 d0 d1 d2 d3 z0 zf hwa hwc hna hN
    by_cases hm : (n : Int) > pk
    · rw [show max pk (n : Int) = (n : Int) by omega] at hw7
      have cR := rise_any HBet.out A.length HP7.out (rk_start (x1, x2) HHp.out) (by simp)
      go_wp2
      go_region
      go_wp2_with fail
      refine cR.mono ?_
      rintro e w8 hs
      have HS := Lib.hid hs
      clear hs cR
      obtain ⟨rfl, _⟩ := id HS.out
      go_wp2
      go_end0
      exact push_end HGC.out.drew HG4.out HR4.out HK.out (by rw [HN.out]; exact HS.out)
    · rw [show max pk (n : Int) = pk by omega] at hw7
      have cR := rise_any HBet.out A.length HP7.out (rk_start (x1, x2) HHp.out) (by simp)
      go_wp2
      go_region
      go_wp2_with fail
      refine cR.mono ?_
      rintro e w8 hs
      have HS := Lib.hid hs
      clear hs cR
      obtain ⟨rfl, _⟩ := id HS.out
      go_wp2
      go_end0
      exact push_end HGC.out.drew HG4.out HR4.out HK.out (by rw [HN.out]; exact HS.out))
end Go.Proofs.Ytnonkhnajloloaa
