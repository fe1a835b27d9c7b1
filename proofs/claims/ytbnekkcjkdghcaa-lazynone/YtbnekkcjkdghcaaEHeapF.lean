/- A heap made of items. -/
import Derived.Test.YtbnekkcjkdghcaaEHeapE
namespace Go.Proofs.Ytbnekkcjkdghcaa
open Go.RowKit Go.Shelf
open Go.Sort (grow grow_empty grow_grow alloc_eq_grow heap_grow_old)
variable {w w' : World} {B K : Nat} {fv v : Value} {A : List Ent} {pu pk : Int} {bt : Ent → Ent → Bool} {E : World → Prop} {Bk : Nat → Prop}

set_option maxRecDepth 100000 in
theorem Hp.apps {w3 : World} {r : Value} {C : List Ent} (h : Hp w B K fv v A pu pk) (ho : ownE entE w3 B r (A ++ C)) (hg : w.grownBy w3 v.ownBlock) (hr : r.ownBlock = v.ownBlock ∨ r.ownBlock = some w.heap.size) (hf : A.length + C.length ≤ 100000) (hx : ∀ x ∈ C, FitsE x) :
    Hp (w3.setCell ⟨K, 1, none⟩ r) B K fv r (A ++ C) pu pk := by
  have hK3 := (hg.block K h.ltK (fun e => h.apart e.symm)).trans h.box
  refine ⟨(heap_setCell_at hK3 r).trans rfl, ho.kept fun g hgr => Below.heap_setCell _ ⟨K, 1, none⟩ _ g ?_, by simpa using hf, h.base, fun y hy => by
    rcases List.mem_append.1 hy with hy | hy
    · exact h.fits y hy
    · exact hx y hy⟩
  intro e
  have e' : g = K := e
  subst e'
  rcases hr with hr | hr
  · exact h.apart (hr.symm.trans hgr)
  · rw [hr] at hgr
    have := h.ltK
    cases hgr
    omega
/-- Behind Of. -/
def OfRet (w : World) (fv : Value) (L : List Ent) (bt : Ent → Ent → Bool) (e : Ending) (w' : World) : Prop :=
  ∃ K v A, e = .returned (.pointer (some ⟨K, 0, none⟩)) ∧ A.Perm L ∧ HeapFrom bt A 0 ∧ Hp w' w.heap.size K fv v A 0 (L.length : Int) ∧ Below w.heap.size w w'
def HOfRel (w : World) (K : Nat) (fv v : Value) (L : List Ent) (bt : Ent → Ent → Bool) (i : Value) (wr : World) : Prop :=
  ∃ (k : Nat) (A : List Ent), i = .int .i64 ((k : Int) - 1) ∧ k ≤ L.length ∧ A.Perm L ∧ HeapFrom bt A k ∧ Hp wr w.heap.size K fv v A 0 (L.length : Int) ∧ Below w.heap.size w wr
set_option maxRecDepth 100000 in
set_option maxHeartbeats 1600000 in
theorem hof_any {g : Nat} {lb : Array Value} (b : Bet g lb bt E Bk) (x : Value) (L : List Ent) (w : World) (h : eltsAt entE w x L) (hn : nilNone x) (hL : L.length ≤ 100000) (hE : E w) (hfit : ∀ x ∈ L, FitsE x) :
    Calls Try.prog 43 #[fnV g lb, x] w (OfRet w (fnV g lb) L bt) := by
  obtain ⟨K, hK⟩ : ∃ K, w.heap.size = K := ⟨_, rfl⟩
  have cN := hnew_any g lb w
  rw [hK] at cN
  obtain ⟨w1, hw1⟩ : ∃ w1, w.alloc (.cells #[fnV g lb, .slice none 0 0, .int .i64 0, .int .i64 0] 86) = w1 := ⟨_, rfl⟩
  have hH1 := hp_new (fnV g lb) w
  have hB1 : Below w.heap.size w w1 := by rw [← hw1]; exact (Below.refl _ w).alloc (Nat.le_refl _) _
  rw [hw1, hK] at hH1
  rw [hw1] at cN
  have HH1 := Lib.hid hH1
  have HE := Lib.hid (h.below hB1 (Nat.le_refl _))
  have HB1 := Lib.hid hB1
  have HNil := Lib.hid hn
  have HBet := Lib.hid b
  have HEV := Lib.hid hE; have HFT := Lib.hid hfit
  have HLT : Hid (∀ k, Bk k → k < w.heap.size) := Lib.hid (b.lt w hE)
  have hff := Try.isFn g lb
  obtain ⟨_, c1, _, c3⟩ := hH1.cells
  obtain ⟨a, cap, rfl, _⟩ := id h
  have HL := Lib.hid hL
  have HK := Lib.hid hK
  clear h hn hw1 hH1 hB1 b hL hK hE hfit
  go_enter Try.func43, Try.ntmps43
  go_wp2_with fail
  refine cN.mono ?_
  rintro e w1 ⟨rfl, rfl⟩
  clear cN
  obtain ⟨k0, hk0⟩ : ∃ k0, k0 = L.length / 2 := ⟨_, rfl⟩
  have hq1 : ((L.length : Nat) : Int).tdiv 2 = (k0 : Int) := by rw [Int.tdiv_eq_ediv_of_nonneg (by omega)]; omega
  have hq2 : IntKind.i64.wrap (k0 : Int) = (k0 : Int) := IntWalk.i64_in _ (by have := HL.out; omega)
  have hq3 : IntKind.i64.wrap ((k0 : Int) - 1) = (k0 : Int) - 1 := IntWalk.i64_in _ (by have := HL.out; omega)
  have HK0 := Lib.hid hk0
  clear hk0
  go_wp2_with (at_builtin; refine wpList_append_elts entE rfl (.tmp 16) (.tmp 17) rfl K (.slice none 0 0) _ [] L rfl rfl HH1.out.row HE.out HNil.out (by have := HL.out; simp; omega) (by have := HH1.out.ltK; omega) ?_; intro r w2 ho hg hr; have hP := Hp.apps HH1.out ho hg hr (by have := HL.out; simp; omega) HFT.out; rw [List.nil_append] at ho hP; obtain ⟨ra, rc, rfl, _⟩ := ho.form; obtain ⟨z0, zf⟩ : w2.cell? ⟨K, 1, none⟩ = some (.slice none 0 0) ∧ w2.frozen? ⟨K, 1, none⟩ = false := ⟨by rw [cell_of_row w2 K 1 _ 86 (0, 0) ((hg.block K HH1.out.ltK (fun e => HH1.out.apart e.symm)).trans HH1.out.box)]; rfl, Lib.frozen_of_heap ((hg.block K HH1.out.ltK (fun e => HH1.out.apart e.symm)).trans HH1.out.box) _⟩; obtain ⟨w3, hw3⟩ : ∃ w3, w2.setCell ⟨K, 1, none⟩ (.slice ra L.length rc) = w3 := ⟨_, rfl⟩; rw [hw3] at hP; obtain ⟨w4, hw4⟩ : ∃ w4, w3.setCell ⟨K, 3, none⟩ (.int .i64 (L.length : Int)) = w4 := ⟨_, rfl⟩; have hP4 := hP.setPk (L.length : Int); rw [hw4] at hP4; have HB4 : Hid (Below w.heap.size w w4) := Lib.hid (by rw [← hw4, ← hw3]; exact ((HB1.out.grown hg HB1.out.size (fun k e => by cases e)).setCell (by rw [HK.out]; exact Nat.le_refl _) _).setCell (by rw [HK.out]; exact Nat.le_refl _) _); obtain ⟨_, _, _, y3⟩ := hP.cells; have yf := hP.frozen 3; have HP4 := Lib.hid hP4; clear ho hg hr hP hP4)
  have HS : Hid (HOfRel w K (fnV g lb) (.slice ra L.length rc) L bt (.int .i64 ((k0 : Int) - 1)) w4) := Lib.hid ⟨k0, L, rfl, by have := HK0.out; omega, List.Perm.refl _, heap_half bt L (by have := HK0.out; omega), by rw [HK.out]; exact HP4.out, HB4.out⟩
  go_loopw [6] (fun i wr => HOfRel w K (fnV g lb) (.slice ra L.length rc) L bt i wr) (fun i _ => (intOf i + 1).toNat)
  case atStart => exact HS.out
  case round =>
    clear HS hq1 hq2 hq3 z0 zf y3 yf hw3 hw4 c1 c3
    obtain ⟨k, A, rfl, hk, hp, hh, ho, hb⟩ := hrel
    have HP := Lib.hid hp; have HH := Lib.hid hh; have HO := Lib.hid ho; have HB := Lib.hid hb
    clear hp hh ho hb
    cases k with
    | zero =>
      have h0 : ¬ (0 : Int) ≤ ((0 : Nat) : Int) - 1 := by omega
      go_wp2
      go_ret
      exact ⟨K, _, A, rfl, HP.out, HH.out, HO.out, HB.out⟩
    | succ j =>
      have hj : ((j + 1 : Nat) : Int) - 1 = (j : Int) := by omega
      rw [hj]
      have hw1 : IntKind.i64.wrap ((j : Int) - 1) = (j : Int) - 1 := IntWalk.i64_in _ (by have := HL.out; omega)
      have h0 : (0 : Int) ≤ (j : Int) := by omega
      have cS := sink_any HBet.out j HO.out (HBet.out.keep w wr HEV.out HB.out.size fun i hi _ => HB.out.block i hi) (fun i hi hb => by have h1 := HLT.out i hb; rcases hi with e | e <;> first | (have := HO.out.base; omega) | (have := (HO.out.row.lt i e.symm).1; omega)) (sk_start HH.out) (by have := HL.out; omega)
      clear hj
      go_wp2_with fail
      refine cS.mono ?_
      rintro e w5 ⟨rfl, A', hp5, hh5, ho5, hk5⟩
      have HP5 := Lib.hid hp5; have HH5 := Lib.hid hh5; have HO5 := Lib.hid ho5; have HK5 := Lib.hid hk5
      clear hp5 hh5 ho5 hk5 cS
      go_wp2
      go_roundw
      case rel => exact ⟨j, A', rfl, by omega, HP5.out.trans HP.out, HH5.out, HO5.out, (HB.out.trans ((HK5.out.below (B := w.heap.size) HB.out.size) fun k e => (HO.out.row.lt k e).1))⟩
      case measure => simp [intOf]
end Go.Proofs.Ytbnekkcjkdghcaa
