/- A count: its memory, New, Get, Len, set. -/
import Derived.Test.YtejcemmhhpbchaaGreatMvV
namespace Go.Proofs.YtejcemmhhpbchaaGreat
open Go.RowKit Go.Maps

/-- The count in block K, whose map is m, has the pairs L. -/
def Cts (w : World) (K : Nat) (m : Option Nat) (L : Cn) : Prop := w.heap[K]? = some (.cells #[.map m] 91 (0, 0)) ∧ mapC w m L
/-- The blocks of a count. -/
def dmineC (K : Nat) (m : Option Nat) (k : Nat) : Prop := k = K ∨ some k = m
set_option maxRecDepth 100000 in
theorem Cts.lt {w : World} {K : Nat} {m : Option Nat} {L : Cn} (h : Cts w K m L) : K < w.heap.size := (Array.getElem?_eq_some_iff.1 h.1).1
set_option maxRecDepth 100000 in
theorem Cts.mlt {w : World} {K : Nat} {m : Option Nat} {L : Cn} (h : Cts w K m L) {k : Nat} (hk : dmineC K m k) : k < w.heap.size := by
  rcases hk with rfl | e
  · exact h.lt
  · subst e; exact CMap.lt h.2
set_option maxRecDepth 100000 in
theorem Cts.kept {w w' : World} {K : Nat} {m : Option Nat} {L : Cn} (h : Cts w K m L) (hk : ∀ k, k < w.heap.size → dmineC K m k → w'.heap[k]? = w.heap[k]?) : Cts w' K m L :=
  ⟨(hk K h.lt (.inl rfl)).trans h.1, h.2.kept fun b e => by subst e; exact hk b (CMap.lt h.2) (.inr rfl)⟩
set_option maxRecDepth 100000 in
theorem Cts.below {w w' : World} {K : Nat} {m : Option Nat} {L : Cn} (h : Cts w K m L) (hb : Below w.heap.size w w') : Cts w' K m L := h.kept fun k hk _ => hb.block k hk
set_option maxRecDepth 100000 in
theorem Cts.alloc {w : World} {K : Nat} {m : Option Nat} {L : Cn} (h : Cts w K m L) (o : Obj) : Cts (w.alloc o) K m L := h.below ((Below.refl _ w).alloc (Nat.le_refl _) o)
set_option maxRecDepth 100000 in
theorem Cts.drewN {w : World} {K : Nat} {m : Option Nat} {L : Cn} (h : Cts w K m L) (n : Nat) : Cts (w.drewN n) K m L := h.kept fun _ _ _ => rfl
set_option maxRecDepth 100000 in
theorem Cts.drew {w : World} {K : Nat} {m : Option Nat} {L : Cn} (h : Cts w K m L) : Cts w.drew K m L := h.kept fun _ _ _ => rfl
set_option maxRecDepth 100000 in
theorem Cts.cell {w : World} {K : Nat} {m : Option Nat} {L : Cn} (h : Cts w K m L) : w.cell? ⟨K, 0, none⟩ = some (.map m) ∧ w.frozen? ⟨K, 0, none⟩ = false :=
  ⟨by rw [cell_of_row w K 0 _ 91 (0, 0) h.1]; rfl, Lib.frozen_of_heap h.1 0⟩
set_option maxRecDepth 100000 in
theorem Cts.ris {w : World} {K : Nat} {m : Option Nat} {L : Cn} (h : Cts w K m L) : RisC L := h.2.ris
set_option maxRecDepth 100000 in
theorem Cts.ne {w : World} {K : Nat} {m : Option Nat} {L : Cn} (h : Cts w K m L) : some K ≠ m := by
  intro e
  subst e
  obtain ⟨es, clock, hb⟩ := CMap.block h.2
  have := h.1
  rw [hb] at this; cases this
set_option maxRecDepth 100000 in
theorem dnew_any (w : World) : Calls Tryz.prog 26 #[] w fun e w' => e = .returned (.pointer (some ⟨w.heap.size, 0, none⟩)) ∧ w' = w.alloc (.cells #[.map none] 91) := by
  go_enter Tryz.func26, Tryz.ntmps26
  go_wp2
  go_ret
  exact ⟨rfl, rfl⟩
set_option maxRecDepth 100000 in
theorem new_cts (w : World) : Cts (w.alloc (.cells #[.map none] 91)) w.heap.size none [] := ⟨heap_alloc_new w _, rfl⟩
/-- What a call that turns the count leaves. -/
def CRet (K : Nat) (m : Option Nat) (L : Cn) (w : World) (w' : World) : Prop := ∃ m', Cts w' K m' L ∧ Kept (dmineC K m) w w' ∧ (m' = m ∨ ∃ b, m' = some b ∧ w.heap.size ≤ b)
set_option maxRecDepth 100000 in
theorem CRet.of_below {K : Nat} {m : Option Nat} {L : Cn} {w w' : World} (h : Cts w K m L) (hb : Below w.heap.size w w') : CRet K m L w w' := ⟨m, h.below hb, Kept.of_below hb (Nat.le_refl _), .inl rfl⟩
set_option maxRecDepth 100000 in
theorem dmineC_next {K : Nat} {m m' : Option Nat} {n i : Nat} (h : m' = m ∨ ∃ b, m' = some b ∧ n ≤ b) (hi : i < n) (hm : dmineC K m' i) : dmineC K m i := by
  rcases hm with e | e
  · exact .inl e
  · rcases h with rfl | ⟨b, rfl, hm⟩
    · exact .inr e
    · cases e; omega
set_option maxRecDepth 100000 in
/-- What was done ahead laid new blocks alone. -/
theorem CRet.from {K : Nat} {m : Option Nat} {L : Cn} {w w1 w2 : World} (hb : Below w.heap.size w w1) (h : CRet K m L w1 w2) : CRet K m L w w2 := by
  obtain ⟨m', hc, hk, hm⟩ := h
  refine ⟨m', hc, (Kept.of_below (S := dmineC K m) hb (Nat.le_refl _)).trans hk fun _ _ h => h, ?_⟩
  rcases hm with e | ⟨b, e, hb2⟩
  · exact .inl e
  · exact .inr ⟨b, e, Nat.le_trans hb.size hb2⟩
set_option maxRecDepth 100000 in
set_option maxHeartbeats 1000000 in
theorem dget_any (K : Nat) (m : Option Nat) (L : Cn) (p q : Int) (w : World) (h : Cts w K m L) (hp : FitsPr (p, q)) :
    Calls Tryz.prog 39 #[.pointer (some ⟨K, 0, none⟩), .agg #[.int .i64 p, .int .i64 q]] w fun e w' => e = .returned (.int .i64 (getC L (p, q))) ∧ w' = (w.alloc (.cells #[.int .i64 p, .int .i64 q] 37)).drew := by
  obtain ⟨w1, hw1⟩ : ∃ w1, w1 = (w.alloc (.cells #[.int .i64 p, .int .i64 q] 37)).drew := ⟨_, rfl⟩
  have h1 : Cts w1 K m L := by rw [hw1]; exact (h.alloc _).drew
  have c0 := h1.cell.1
  have hl := look_c h1.2 hp
  have b0 : w1.cell? ⟨w.heap.size, 0, none⟩ = some (.int .i64 p) := by rw [hw1]; simp
  have b1 : w1.cell? ⟨w.heap.size, 1, none⟩ = some (.int .i64 q) := by rw [hw1]; simp
  have hw' := hw1.symm
  unfold pv at hl
  simp only at hl
  generalize getC L (p, q) = c at *
  clear h h1 hp hw1
  go_enter Tryz.func39, Tryz.ntmps39
  go_wp2_with fail
  go_region
  all_goals (go_wp2_with fail)
  all_goals go_ret
  all_goals exact ⟨rfl, hw'.symm⟩
set_option maxRecDepth 100000 in
theorem get_nil (p q : Int) (w : World) :
    Calls Tryz.prog 39 #[.pointer none, .agg #[.int .i64 p, .int .i64 q]] w fun e w' => e = .returned (.int .i64 0) ∧ w' = w.alloc (.cells #[.int .i64 p, .int .i64 q] 37) := by
  go_enter Tryz.func39, Tryz.ntmps39
  go_wp2
  go_ret
  exact ⟨rfl, rfl⟩
set_option maxRecDepth 100000 in
/-- The map of a count is turned. -/
theorem CRet.turned {K b : Nat} {L M : Cn} {w w' : World} (h : Cts w K (some b) L) (hm : CMap w' b M) (hg : w.grownBy w' (some b)) : CRet K (some b) M w w' :=
  ⟨some b, ⟨(hg.block K h.lt h.ne).trans h.1, hm⟩, (Kept.refl _ w).grown hg fun _ e _ => .inr e.symm, .inl rfl⟩
set_option maxRecDepth 100000 in
/-- A map made and laid into the count. -/
theorem made_cts {w : World} {K : Nat} (h : Cts w K none []) : Cts ((w.alloc (.map #[] 0)).setCell ⟨K, 0, none⟩ (.map (some w.heap.size))) K (some w.heap.size) [] := by
  have hK := h.lt
  have h1 : (w.alloc (.map #[] 0)).heap[K]? = some (.cells #[.map none] 91 (0, 0)) := (Below.heap_alloc w _ K hK).trans h.1
  refine ⟨heap_setCell_at h1 _, ?_⟩
  exact CMap.kept (cmap_made w) (Below.heap_setCell _ _ _ _ (show w.heap.size ≠ K by omega))
set_option maxRecDepth 100000 in
theorem CRet.made {K : Nat} {M : Cn} {w w' : World} (h : Cts w K none []) (hm : CMap w' w.heap.size M) (hg : ((w.alloc (.map #[] 0)).setCell ⟨K, 0, none⟩ (.map (some w.heap.size))).grownBy w' (some w.heap.size)) : CRet K none M w w' := by
  have h2 := made_cts h
  have hK := h.lt
  refine ⟨some w.heap.size, ⟨(hg.block K h2.lt h2.ne).trans h2.1, hm⟩, ?_, .inr ⟨_, rfl, Nat.le_refl _⟩⟩
  exact (((Kept.refl _ w).alloc _).setCell _ _ fun _ => .inl rfl).grown hg fun _ e hk => by cases e; omega
set_option maxRecDepth 100000 in
set_option maxHeartbeats 2000000 in
theorem dset_any (K : Nat) (m : Option Nat) (L : Cn) (p q n : Int) (w : World) (h : Cts w K m L) (hp : FitsPr (p, q)) (hn : FitsZ n) (hl : L.length ≤ 1048576) :
    Calls Tryz.prog 80 #[.pointer (some ⟨K, 0, none⟩), .agg #[.int .i64 p, .int .i64 q], .int .i64 n] w fun e w' => e = .returned (.tuple #[]) ∧ CRet K m (setC L (p, q) n) w w' := by
  unfold setC
  by_cases h0 : n = 0
  · rw [if_pos h0]
    subst h0
    obtain ⟨w1, hw1⟩ : ∃ w1, w1 = (w.alloc (.cells #[.int .i64 p, .int .i64 q] 37)).drew := ⟨_, rfl⟩
    have h1 : Cts w1 K m L := by rw [hw1]; exact (h.alloc _).drew
    have HB : Hid (Below w.heap.size w w1) := Lib.hid (by rw [hw1]; exact ((Below.refl _ w).alloc (Nat.le_refl _) _).drew)
    obtain ⟨w2, hd, hm2, hg2⟩ := drop_c h1.2 hp
    have c0 := h1.cell.1
    have b0 : w1.cell? ⟨w.heap.size, 0, none⟩ = some (.int .i64 p) := by rw [hw1]; simp
    have b1 : w1.cell? ⟨w.heap.size, 1, none⟩ = some (.int .i64 q) := by rw [hw1]; simp
    have HR : Hid (CRet K m (delC L (p, q)) w w2) := Lib.hid (CRet.from HB.out (by
      cases m with
      | none =>
        have e : delC L (p, q) = [] := hm2
        rw [e]
        exact ⟨none, ⟨(hg2.block K h1.lt (by simp)).trans h1.1, rfl⟩, (Kept.refl _ w1).grown hg2 (fun k e _ => by cases e), .inl rfl⟩
      | some b => exact CRet.turned h1 hm2 hg2))
    have hw' := hw1.symm
    unfold pv at hd
    simp only at hd
    clear h h1 hp hw1 hm2 hg2 HB
    go_enter Tryz.func80, Tryz.ntmps80
    go_wp2_with fail
    go_region
    all_goals (go_wp2_with fail)
    all_goals (try simp only [Exit.inBlock, Exit.then])
    all_goals refine bodyPost_ret (results_none rfl _ _ _) rfl ?_
    all_goals exact ⟨rfl, HR.out⟩
  · rw [if_neg h0]
    obtain ⟨w0, hw0⟩ : ∃ w0, w0 = w.alloc (.cells #[.int .i64 p, .int .i64 q] 37) := ⟨_, rfl⟩
    have hs0 : w0.heap.size = w.heap.size + 1 := by rw [hw0]; simp
    have a0 : Cts w0 K m L := by rw [hw0]; exact h.alloc _
    have HB : Hid (Below w.heap.size w w0) := Lib.hid (by rw [hw0]; exact (Below.refl _ w).alloc (Nat.le_refl _) _)
    obtain ⟨c0, f0⟩ := a0.cell
    have b0 : w0.cell? ⟨w.heap.size, 0, none⟩ = some (.int .i64 p) := by rw [hw0]; simp
    have b1 : w0.cell? ⟨w.heap.size, 1, none⟩ = some (.int .i64 q) := by rw [hw0]; simp
    have hw' := hw0.symm
    cases m with
    | none =>
      obtain rfl : L = [] := h.2
      have hem := deqMap_none
      have hmm := @run_makeMap Tryz.prog
      have hKl := h.lt
      obtain ⟨w1, hw1⟩ : ∃ w1, w1 = (w0.alloc (.map #[] 0)).setCell ⟨K, 0, none⟩ (.map (some w0.heap.size)) := ⟨_, rfl⟩
      have h1 : Cts w1 K (some w0.heap.size) [] := by rw [hw1]; exact made_cts a0
      obtain ⟨w2, hd, hm2, ht2⟩ := put_c (w := w1.drew) h1.drew.2 hp hn (by simp)
      have HR : Hid (CRet K none (insC (p, q) n []) w w2) := Lib.hid (CRet.from HB.out (CRet.made a0 hm2 (by have := ht2.grown; rw [hw1] at this; exact ⟨this.os, this.tape, this.output, this.size, this.block⟩)))
      have c1 := h1.cell.1
      have f2 : (w0.alloc (.map #[] 0)).frozen? ⟨K, 0, none⟩ = false := Lib.frozen_of_heap ((Below.heap_alloc w0 _ K a0.lt).trans a0.1) 0
      have c2 : (w0.alloc (.map #[] 0)).cell? ⟨K, 0, none⟩ = some (.map none) := by rw [← c0]; exact ((Below.refl _ w0).alloc (Nat.le_refl _) _).cell a0.lt
      have d0 : w1.cell? ⟨w.heap.size, 0, none⟩ = some (.int .i64 p) := by
        rw [← b0, hw1]
        exact World.cell?_of_block ((Below.heap_setCell _ _ _ _ (show w.heap.size ≠ K by omega)).trans (Below.heap_alloc w0 _ w.heap.size (by omega)))
      have d1 : w1.cell? ⟨w.heap.size, 1, none⟩ = some (.int .i64 q) := by
        rw [← b1, hw1]
        exact World.cell?_of_block ((Below.heap_setCell _ _ _ _ (show w.heap.size ≠ K by omega)).trans (Below.heap_alloc w0 _ w.heap.size (by omega)))
      have hw1' := hw1.symm
      unfold pv at hd
      simp only at hd
      clear h h1 hp hw1 hm2 ht2 HB a0 hw0 hs0 hKl hn hl
      go_enter Tryz.func80, Tryz.ntmps80
      go_wp2_with fail
      go_region
      all_goals (go_wp2_with fail)
      all_goals go_end0
      all_goals exact ⟨rfl, HR.out⟩
    | some b =>
      have hem := deqMap_some b
      obtain ⟨w2, hd, hm2, ht2⟩ := put_c (w := w0.drew) a0.drew.2 hp hn hl
      have HR : Hid (CRet K (some b) (insC (p, q) n L) w w2) := Lib.hid (CRet.from HB.out (CRet.turned a0 hm2 (by have := ht2.grown; exact ⟨this.os, this.tape, this.output, this.size, this.block⟩)))
      unfold pv at hd
      simp only at hd
      clear h hp hm2 ht2 HB a0 hw0 hs0 hn hl
      go_enter Tryz.func80, Tryz.ntmps80
      go_wp2_with fail
      go_region
      all_goals (go_wp2_with fail)
      all_goals go_end0
      all_goals exact ⟨rfl, HR.out⟩
end Go.Proofs.YtejcemmhhpbchaaGreat
