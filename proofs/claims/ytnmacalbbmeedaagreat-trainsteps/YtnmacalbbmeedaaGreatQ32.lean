/- Texts in one: LzPut, Rng. -/
import Derived.Test.YtnmacalbbmeedaaGreatQ31
import Derived.RangeFuncNested
import Derived.RangeFuncBound
import Derived.RangeFuncCalls
import Derived.RangeFuncLeaves
import Derived.Test.YtnmacalbbmeedaaGreatRows
/- Put. -/
namespace Go.Proofs.YtnmacalbbmeedaaGreat
open Go.RowKit Go.Maps Go.Shelf
open Go.Sort (grow grow_empty grow_grow alloc_eq_grow heap_grow_old)
variable {w w' : World} {K T H c m : Nat} {v : Value} {A : List Ent} {hu hk : Int} {tv : Value} {tb : Option Nat} {J : List Joint} {q q' : Qm}

set_option maxRecDepth 100000 in
/-- The map alone has turned. -/
theorem LzIn.mapped (h : LzIn w K T H c m v A hu hk tv tb J q) (hg : w.grownBy w' (some m)) {M : Cn} (hM : CMap w' m M) (hs : SaneQ J { q with known := M }) : LzIn w' K T H c m v A hu hk tv tb J { q with known := M } := by
  obtain ⟨a1, a2, a3, a4⟩ := h.apart
  have hne : ∀ k, k ≠ m → k < w.heap.size → w'.heap[k]? = w.heap[k]? := fun k h1 h2 => hg.block k h2 fun e => h1 (by cases e; rfl)
  exact ⟨(hne K a4 h.ltK).trans h.box, h.env.kept fun k h1 h2 => hne k (fun e => a1 k h2 (.inr (.inl e))) h1, h.heap.kept fun k h1 h2 => hne k (fun e => a3 (e ▸ h2)) h1, h.ord, hM, h.perm, hs, h.hu, h.sep⟩
set_option maxRecDepth 100000 in
theorem SaneQ.put1 {J : List Joint} {q : Qm} (h : SaneQ J q) {p : Int × Int} {n : Int} (hp : FitsPr p) (h1 : thereOf J p.1 = true) (h2 : thereOf J p.2 = true) (hn : 1 ≤ n) (hn2 : n ≤ 9223372036854775807) (pk : Int) : SaneQ J ⟨q.ents ++ [(p.1, p.2, n)], insC p n q.known, q.pu + 1, q.po, pk, q.re⟩ := by
  have hl := h.len
  have hc := h.cnt
  have hr := h.re
  have ho := h.po
  have hi := ins_len_le h.ris p n
  refine ⟨fun x hx => ?_, known_ins h hp h1 h2 hn hn2, ris_ins h.ris, ho, by simp only [List.length_append, List.length_singleton]; omega, by simp only; omega, by simp only; omega⟩
  rcases List.mem_append.1 hx with hx | hx
  · exact h.ents x hx
  · rw [List.mem_singleton] at hx
    subst hx
    exact ⟨⟨hp.1, hp.2, by unfold FitsN; simp only; omega⟩, h1, h2, hn⟩
/-- What is pushed. -/
def PuRet (w2 : World) (H c : Nat) (v : Value) (A : List Ent) (x : Ent) (hu : Int) (J : List Joint) (w4 : World) : Prop :=
  ∃ v' A' hk', A'.Perm (A ++ [x]) ∧ HeapFrom (entBetter J) A' 0 ∧ Hp w4 0 H (ordV c) v' A' (hu + 1) hk' ∧ Kept (mine H v) w2 w4 ∧ (v'.ownBlock = v.ownBlock ∨ ∀ g, v'.ownBlock = some g → w2.heap.size ≤ g)
set_option maxRecDepth 100000 in
set_option maxHeartbeats 4000000 in
theorem lput_any (p : Int × Int) (n : Int) (h : LzIn w K T H c m v A hu hk tv tb J q) (hp : FitsPr p) (h1 : thereOf J p.1 = true) (h2 : thereOf J p.2 = true) (hn2 : FitsN n) (hpu : q.pu ≤ 80000) :
    Calls Tryz.prog 52 #[.pointer (some ⟨K, 0, none⟩), .agg #[.int .i64 p.1, .int .i64 p.2], .int .i64 n] w fun e w' => e = .returned (.tuple #[]) ∧ LRet w K T H c m v tv tb J (putQ q p n) w' := by
  obtain ⟨p1, p2⟩ := p
  simp only at h1 h2
  obtain ⟨N, hN⟩ : ∃ N, w.heap.size = N := ⟨_, rfl⟩
  obtain ⟨wa, hwa⟩ : ∃ wa, w.alloc (.cells #[.int .i64 p1, .int .i64 p2] 77) = wa := ⟨_, rfl⟩
  have hg : Grown w wa := by rw [← hwa]; exact (Grown.refl w).alloc _
  have hba : wa.heap[N]? = some (.cells #[.int .i64 p1, .int .i64 p2] 77 (0, 0)) := by rw [← hwa, ← hN]; exact heap_alloc_new w _
  have n0 : wa.cell? ⟨N, 0, none⟩ = some (.int .i64 p1) := by rw [cell_of_row wa N _ _ 77 (0, 0) hba]; rfl
  have n1 : wa.cell? ⟨N, 1, none⟩ = some (.int .i64 p2) := by rw [cell_of_row wa N _ _ 77 (0, 0) hba]; rfl
  have ha := h.grown hg
  obtain ⟨c0, c1, c2, c3, c4, c5, c6⟩ := ha.cells
  have HH := Lib.hid h
  have HA := Lib.hid ha
  have HGA := Lib.hid hg
  have HN := Lib.hid hN
  have HBA := Lib.hid hba
  have hmw := deqMap_some m
  have hmN : m < N := by rw [← hN]; exact h.map.lt
  by_cases hn : n < 1
  · obtain ⟨w2, hrun, hM2, hg2⟩ := drop_c (w := wa.drew) (m := some m) (L := q.known) (ha.map.kept rfl) hp
    have e1 : putQ q (p1, p2) n = { q with known := delC q.known (p1, p2) } := by unfold putQ; rw [if_pos hn]
    have hs : SaneQ J { q with known := delC q.known (p1, p2) } := by rw [← e1]; exact h.sane.put hp h1 h2 hn2.2
    have hL2 := (ha.kept (w' := wa.drew) fun _ _ _ => rfl).mapped hg2 hM2 hs
    have HR : Hid (LRet w K T H c m v tv tb J (putQ q (p1, p2) n) w2) := Lib.hid (by
      rw [e1]
      refine ⟨H, c, v, A, hu, hk, hL2, ?_, fun k hk _ => hk⟩
      exact ((Kept.of_below (S := mineL K H m v) hg.below (Nat.le_refl _)).drew).grown hg2 fun k e _ => by cases e; exact .inr (.inl rfl))
    unfold pv at hrun
    simp only at hrun
    clear h ha hg hba hM2 hg2 hs hL2 e1
    go_enter Tryz.func52, Tryz.ntmps52
    go_wp2_with fail
    go_region
    go_wp2
    refine bodyPost_ret (results_none rfl _ _ _) rfl ?_
    exact ⟨rfl, HR.out⟩
  · have hn1 : 1 ≤ n := by omega
    have hs0 := h.sane
    have hlen := ins_len_le hs0.ris (p1, p2) n
    have hkl := hs0.len
    have hpo0 := hs0.po
    have hcnt0 := hs0.cnt
    obtain ⟨w2, hrun, hM2, hmt⟩ := put_c (w := wa.drew) (ha.map.kept rfl) hp hn2 (by omega)
    have hg2 := hmt.grown
    unfold pv at hrun
    simp only at hrun
    -- the map has turned: all else lies as it lay
    have hx2 : ∀ k, k < wa.heap.size → k ≠ m → w2.heap[k]? = wa.heap[k]? := fun k h1 h2 => hg2.block k h1 fun e => h2 (by cases e; rfl)
    obtain ⟨p1', p2', p3', p4'⟩ := ha.apart
    have hNlt : N < wa.heap.size := by rw [← hwa, World.size_alloc, hN]; omega
    have hbN2 : w2.heap[N]? = some (.cells #[.int .i64 p1, .int .i64 p2] 77 (0, 0)) := (hx2 N hNlt (by omega)).trans hba
    have hbK2 := (hx2 K ha.ltK p4').trans ha.box
    have hE2 : Env w2 T tv tb J c := ha.env.kept fun k h1 h2 => hx2 k h1 fun e => p1' k h2 (.inr (.inl e))
    have hH2 : Hp w2 0 H (ordV c) v A hu hk := ha.heap.kept fun k h1 h2 => hx2 k h1 fun e => p3' (e ▸ h2)
    have hK2 : Kept (mineL K H m v) w w2 := ((Kept.of_below (S := mineL K H m v) hg.below (Nat.le_refl _)).drew).grown hg2 fun k e _ => by cases e; exact .inr (.inl rfl)
    have hKN : K < N := by rw [← hN]; exact h.ltK
    -- the cells of the queue and of the pair, in worlds that have grown since, and behind the push
    have HCL : Hid (∀ W : World, W.heap[K]? = w2.heap[K]? → W.heap[N]? = w2.heap[N]? → W.cell? ⟨K, 1, none⟩ = some (.pointer (some ⟨H, 0, none⟩)) ∧ W.cell? ⟨N, 0, none⟩ = some (.int .i64 p1) ∧ W.cell? ⟨N, 1, none⟩ = some (.int .i64 p2)) := Lib.hid fun W e1 e2 =>
      ⟨by rw [cell_of_row W K _ _ 116 (0, 0) (e1.trans hbK2)]; rfl, by rw [cell_of_row W N _ _ 77 (0, 0) (e2.trans hbN2)]; rfl, by rw [cell_of_row W N _ _ 77 (0, 0) (e2.trans hbN2)]; rfl⟩
    have hlt2 : K < w2.heap.size ∧ N < w2.heap.size := ⟨(Array.getElem?_eq_some_iff.1 hbK2).1, (Array.getElem?_eq_some_iff.1 hbN2).1⟩
    have HCG : Hid (∀ W, Grown w2 W → W.cell? ⟨K, 1, none⟩ = some (.pointer (some ⟨H, 0, none⟩)) ∧ W.cell? ⟨N, 0, none⟩ = some (.int .i64 p1) ∧ W.cell? ⟨N, 1, none⟩ = some (.int .i64 p2)) := Lib.hid fun W hgW => HCL.out W (hgW.below.block K hlt2.1) (hgW.below.block N hlt2.2)
    have hmvN : ¬ mine H v N := by
      rintro (e | e)
      · have := h.heap.ltK; omega
      · have := (h.heap.row.lt N e.symm).2; omega
    have HCK : Hid (∀ W, Kept (mine H v) w2 W → W.cell? ⟨K, 1, none⟩ = some (.pointer (some ⟨H, 0, none⟩)) ∧ W.cell? ⟨N, 0, none⟩ = some (.int .i64 p1) ∧ W.cell? ⟨N, 1, none⟩ = some (.int .i64 p2)) := Lib.hid fun W hkW => HCL.out W (hkW.block K hlt2.1 p2') (hkW.block N hlt2.2 hmvN)
    have hfi : FitsI (p1, p2, n) := ⟨hp.1, hp.2, hn2⟩
    have htee : LzT w2 K T tv tb J := ⟨by rw [cell_of_row w2 K _ _ 116 (0, 0) hbK2]; rfl, hE2.tab, hE2.few⟩
    have HPL : Hid (∀ W, Grown w2 W → Calls Tryz.prog 74 #[.pointer (some ⟨K, 0, none⟩), .agg #[.int .i64 p1, .int .i64 p2, .int .i64 n]] W fun e w' => e = .returned (.agg #[.int .i64 p1, .int .i64 p2, .int .i64 n, .int .i64 p1, .int .i64 p2, .int .i64 n]) ∧ Grown w2 w') := Lib.hid fun W hgW => by
      have cP := place_any (p1, p2, n) (htee.grown hgW) hfi
      rw [place_there (x := (p1, p2, n)) h1 h2] at cP
      exact cP.mono fun e w' he => ⟨he.1, hgW.trans he.2⟩
    have hAl : A.length < 100000 := by rw [h.len]; omega
    have HPU : Hid (∀ W, Grown w2 W → Calls Tryz.prog 73 #[.pointer (some ⟨H, 0, none⟩), .agg #[.int .i64 p1, .int .i64 p2, .int .i64 n, .int .i64 p1, .int .i64 p2, .int .i64 n]] W fun e w' => e = .returned (.tuple #[]) ∧ PuRet w2 H c v A (entOf (p1, p2, n)) hu J w') := Lib.hid fun W hgW => by
      have cU := push_any (lz_bet T tv tb J c) (entOf (p1, p2, n)) (hH2.grown hgW) (hE2.grown hgW) h.hap (fits_ent hfi) h.ord hAl ⟨h.hu.1, by have := h.hu.2; omega⟩
      exact cU.mono fun e w' he => by
        obtain ⟨e1, v', A', a1, a2, a3, a4, a5⟩ := he
        refine ⟨e1, v', A', _, a1, a2, a3, ((Kept.refl (mine H v) w2).grow hgW).trans a4 fun _ _ h => h, ?_⟩
        rcases a5 with a5 | a5
        · exact .inl a5
        · exact .inr fun g hg => Nat.le_trans hgW.below.size (a5 g hg)
    have hg0 := Grown.refl w2
    obtain ⟨s0, s1, s2⟩ := HCG.out w2 hg0
    have HX2 := Lib.hid (And.intro hbK2 hE2)
    have HM2 := Lib.hid hM2
    have HKP2 := Lib.hid hK2
    have HPN := Lib.hid (And.intro hp (And.intro h1 (And.intro h2 hn1)))
    clear h ha hg hba hM2 hg2 hmt hx2 p1' p2' p3' p4' hbN2 hbK2 hE2 hH2 hK2 hmvN htee hs0 hlen hfi hAl h1 h2 hp
    go_enter Tryz.func52, Tryz.ntmps52
    go_wp2_with fail
    go_region
    go_wp2_with fail
    go_region_held3 (fun w' => w'.cell? ⟨K, 1, none⟩ = some (.pointer (some ⟨H, 0, none⟩)) ∧ w'.cell? ⟨N, 0, none⟩ = some (.int .i64 p1) ∧ w'.cell? ⟨N, 1, none⟩ = some (.int .i64 p2))
      (first | with_reducible exact ⟨s0, s1, s2⟩ | with_reducible exact HCG.out _ (by assumption) | with_reducible exact HCG.out _ (Grown.drew (by assumption)) | with_reducible exact HCK.out _ hk4.out)
      (first
        | (go_at_call 74
           refine (HPL.out _ (by first | assumption | exact Grown.drew (by assumption))).mono ?_
           rintro e w3 ⟨rfl, hg3⟩)
        | (go_at_call 73
           refine (HPU.out _ (by first | assumption | exact Grown.drew (by assumption))).mono ?_
           rintro e w4 ⟨rfl, hr4⟩
           have HR4 := Lib.hid hr4
           have hk4 : Hid (Kept (mine H v) w2 w4) := Lib.hid (by obtain ⟨_, _, _, _, _, _, h, _⟩ := hr4; exact h)
           clear hr4))
    all_goals (
      obtain ⟨v', A', hk', b1, b2, b3, b4, b5⟩ := HR4.out
      obtain ⟨a1, a2, a3, a4⟩ := HH.out.apart
      obtain ⟨l, hl⟩ : ∃ l, q.ents.length + 1 = l := ⟨_, rfl⟩
      obtain ⟨k, hkn⟩ : ∃ k, (insC (p1, p2) n q.known).length = k := ⟨_, rfl⟩
      have hK2lt := (Array.getElem?_eq_some_iff.1 HX2.out.1).1
      have hbx4 := (b4.block K hK2lt a2).trans HX2.out.1
      have f5 : w4.cell? ⟨K, 5, none⟩ = some (.int .i64 q.pu) := by rw [cell_of_row w4 K _ _ 116 (0, 0) hbx4]; rfl
      have f6 : w4.frozen? ⟨K, 5, none⟩ = false := Lib.frozen_of_heap hbx4 _
      obtain ⟨w5, hw5⟩ : ∃ w5, w4.setCell ⟨K, 5, none⟩ (.int .i64 (q.pu + 1)) = w5 := ⟨_, rfl⟩
      have hbx5 := heap_setCell_at hbx4 (i := 5) (.int .i64 (q.pu + 1))
      rw [hw5] at hbx5
      have hk45 : ∀ i, i ≠ K → w5.heap[i]? = w4.heap[i]? := fun i hi => by rw [← hw5, Below.heap_setCell _ ⟨K, 5, none⟩ _ i hi]
      have hKv' : ¬ mine H v' K := by
        rintro (e | e)
        · exact a2 (.inl e)
        · rcases b5 with b5 | b5
          · exact a2 (.inr (by rw [e, b5]))
          · have := b5 K e.symm; omega
      have hE4 : Env w4 T tv tb J c := HX2.out.2.kept fun i hi1 hi2 => b4.block i hi1 fun e => a1 i hi2 (.inr (.inr e))
      have hM4 := HM2.out.kept (b4.block m HM2.out.lt a3)
      have hL5 : LzIn w5 K T H c m v' A' (hu + 1) hk' tv tb J ⟨q.ents ++ [(p1, p2, n)], insC (p1, p2) n q.known, q.pu + 1, q.po, q.pk, q.re⟩ :=
        ⟨hbx5, hE4.kept fun i hi1 hi2 => hk45 i fun e => a1 i hi2 (.inl e), b3.kept fun i hi1 hi2 => hk45 i fun e => hKv' (e ▸ hi2), b2, hM4.kept (hk45 m fun e => a4 e.symm), by
          rw [List.map_append]
          exact b1.trans (HH.out.perm.append (List.Perm.refl _)), HH.out.sane.put1 HPN.out.1 HPN.out.2.1 HPN.out.2.2.1 HPN.out.2.2.2 hn2.2 _, ⟨by have := HH.out.hu.1; omega, by have := HH.out.hu.2; show hu + 1 ≤ q.pu + 1; omega⟩, HH.out.sep⟩
      have hK5 : Kept (mineL K H m v) w w5 := by
        rw [← hw5]
        exact (HKP2.out.trans b4 fun _ _ e => .inr (.inr e)).setCell ⟨K, 5, none⟩ _ fun _ => .inl rfl
      have hnew : ∀ i, mine H v' i → i < w.heap.size → mine H v i := by
        rintro i (e | e) hi
        · exact .inl e
        · rcases b5 with b5 | b5
          · exact .inr (by rw [e, b5])
          · have := b5 i e.symm
            have := HKP2.out.size
            omega
      obtain ⟨_, _, _, _, _, f7, _⟩ := hL5.cells
      have f8 := hL5.frozen 7
      have hll : (q.ents ++ [(p1, p2, n)]).length = l := by rw [List.length_append, List.length_singleton]; exact hl
      have cL5 : ∀ W, Grown w5 W → Calls Tryz.prog 75 #[.pointer (some ⟨K, 0, none⟩)] W fun e w' => e = .returned (.int .i64 (l : Int)) ∧ w' = W := fun W hgW => by
        have := llen_any (hL5.grown hgW)
        simp only [hll] at this
        exact this
      have g50 := Grown.refl w5
      obtain ⟨w6, hw6⟩ : ∃ w6, w5.drew.setCell ⟨K, 7, none⟩ (.int .i64 (max q.pk (l : Int))) = w6 := ⟨_, rfl⟩
      have hbx6 := heap_setCell_at (w := w5.drew) hbx5 (i := 7) (.int .i64 (max q.pk (l : Int)))
      rw [hw6] at hbx6
      have hL6 : LzIn w6 K T H c m v' A' (hu + 1) hk' tv tb J ⟨q.ents ++ [(p1, p2, n)], insC (p1, p2) n q.known, q.pu + 1, q.po, max q.pk (l : Int), q.re⟩ :=
        hL5.turn hbx6 (fun i hi1 hi2 => by rw [← hw6, Below.heap_setCell _ ⟨K, 7, none⟩ _ i hi2]; rfl) rfl rfl (HH.out.sane.put1 HPN.out.1 HPN.out.2.1 HPN.out.2.2.1 HPN.out.2.2.2 hn2.2 _) hL5.hu.2
      have hK6 : Kept (mineL K H m v) w w6 := by
        rw [← hw6]
        exact hK5.drew.setCell ⟨K, 7, none⟩ _ fun _ => .inl rfl
      have hpu1 : IntKind.i64.wrap (q.pu + 1) = q.pu + 1 := IntWalk.i64_in _ (by omega)
      have hkl2 : k ≤ 80001 := by have := ins_len_le HH.out.sane.ris (p1, p2) n; omega
      have hll2 : l ≤ 80001 := by omega
      have hk2 : IntKind.i64.wrap (2 * (k : Int)) = 2 * (k : Int) := IntWalk.i64_in _ (by omega)
      have cL6 : ∀ W, W = w6 → Calls Tryz.prog 75 #[.pointer (some ⟨K, 0, none⟩)] W fun e w' => e = .returned (.int .i64 (l : Int)) ∧ w' = W := fun W hgW => by
        subst hgW
        have := llen_any hL6
        simp only [hll] at this
        exact this
      have cK6 : ∀ W, W = w6 → Calls Tryz.prog 76 #[.pointer (some ⟨K, 0, none⟩)] W fun e w' => e = .returned (.int .i64 (k : Int)) ∧ w' = W := fun W hgW => by
        subst hgW
        have := lknown_any hL6
        simp only [hkn] at this
        exact this
      have HL6 := Lib.hid hL6
      have HK6 := Lib.hid hK6
      have HNW := Lib.hid hnew
      have HKN := Lib.hid (And.intro hl hkn)
      clear a1 a2 a3 a4 b1 b2 b3 b4 b5 hk4 HR4 hbx4 hbx5 hbx6 hk45 hKv' hE4 hM4 hL5 hK5 hnew hL6 hK6 hll s0 s1 s2 hl hkn hrun
      have ep : ∀ b, manyQ l k = b → putQ q (p1, p2) n = (bif b then ⟨itemsOf (insC (p1, p2) n q.known), insC (p1, p2) n q.known, q.pu + 1, q.po, max q.pk (l : Int), q.re + 1⟩ else ⟨q.ents ++ [(p1, p2, n)], insC (p1, p2) n q.known, q.pu + 1, q.po, max q.pk (l : Int), q.re⟩) := fun b hb => by
        unfold putQ
        rw [if_neg (by omega), HKN.out.1, HKN.out.2, hb]
      have HEP := Lib.hid ep
      clear ep
      go_wp2_with fail
      go_region_with (refine (cL5 _ (by first | exact g50 | exact Grown.drew g50)).mono ?_; rintro e w9 ⟨rfl, rfl⟩)
      all_goals (
        by_cases h16 : (16 : Int) < (l : Int)
        · by_cases h2k : 2 * (k : Int) < (l : Int)
          · have hm : manyQ l k = true := by unfold manyQ; simp; omega
            have e3 := HEP.out true hm
            rw [cond_true] at e3
            have hsn := HH.out.sane.put HPN.out.1 HPN.out.2.1 HPN.out.2.2.1 hn2.2
            rw [e3] at hsn
            have cR := rebuild_any HL6.out (by show (insC (p1, p2) n q.known).length ≤ 90000; rw [HKN.out.2]; omega) (by show q.re ≤ 1000000; have := HH.out.sane.re.2; omega) hsn
            have HE3 := Lib.hid e3
            clear e3 hsn hm
            go_wp2_with (first | (go_at_call 75; refine (cL6 _ rfl).mono ?_; rintro e w10 ⟨rfl, rfl⟩) | (go_at_call 76; refine (cK6 _ rfl).mono ?_; rintro e w10 ⟨rfl, rfl⟩))
            refine cR.mono ?_
            rintro e w11 ⟨rfl, H', c', v'', A'', hu', hk'', r1, r2, r3⟩
            have HR : Hid (LRet w K T H c m v tv tb J (putQ q (p1, p2) n) w11) := Lib.hid (by
              rw [HE3.out]
              refine ⟨H', c', v'', A'', hu', hk'', r1, HK6.out.trans r2 fun i hi e => ?_, fun i hi hlt => ?_⟩
              · rcases e with e | e | e
                · exact .inl e
                · exact .inr (.inl e)
                · exact .inr (.inr (HNW.out i e hi))
              · rcases r3 i hi (Nat.lt_of_lt_of_le hlt HK6.out.size) with (e | e | e) | e
                · exact .inl (.inl e)
                · exact .inl (.inr (.inl e))
                · exact .inl (.inr (.inr (HNW.out i e hlt)))
                · exact .inr e)
            clear r1 r2 r3 cR
            go_wp2
            go_end0
            exact ⟨rfl, HR.out⟩
          · have hm : manyQ l k = false := by unfold manyQ; simp; omega
            have e3 := HEP.out false hm
            rw [cond_false] at e3
            have HE3 := Lib.hid e3
            clear e3 hm
            go_wp2_with (first | (go_at_call 75; refine (cL6 _ rfl).mono ?_; rintro e w10 ⟨rfl, rfl⟩) | (go_at_call 76; refine (cK6 _ rfl).mono ?_; rintro e w10 ⟨rfl, rfl⟩))
            go_end0
            refine ⟨rfl, ?_⟩
            rw [HE3.out]
            exact ⟨H, c, v', A', _, _, HL6.out, HK6.out, fun i hi hlt => by
              rcases hi with (e | e | e) | e
              · exact .inl (.inl e)
              · exact .inl (.inr (.inl e))
              · exact .inl (.inr (.inr (HNW.out i e hlt)))
              · exact .inr e⟩
        · have hm : manyQ l k = false := by unfold manyQ; simp; omega
          have e3 := HEP.out false hm
          rw [cond_false] at e3
          have HE3 := Lib.hid e3
          clear e3 hm
          go_wp2_with (first | (go_at_call 75; refine (cL6 _ rfl).mono ?_; rintro e w10 ⟨rfl, rfl⟩) | (go_at_call 76; refine (cK6 _ rfl).mono ?_; rintro e w10 ⟨rfl, rfl⟩))
          go_end0
          refine ⟨rfl, ?_⟩
          rw [HE3.out]
          exact ⟨H, c, v', A', _, _, HL6.out, HK6.out, fun i hi hlt => by
            rcases hi with (e | e | e) | e
            · exact .inl (.inl e)
            · exact .inl (.inr (.inl e))
            · exact .inl (.inr (.inr (HNW.out i e hlt)))
            · exact .inr e⟩))
end Go.Proofs.YtnmacalbbmeedaaGreat
/- A range over a function whose iterator turns memory of its own: the iterator's contract by states, and the law of the statement. -/
namespace Go.Proofs.YtnmacalbbmeedaaGreat
open Go.RowKit

/-- From W to V nothing that holds cells has turned, and nothing below block B; blocks may have come. -/
structure Blink (B : Nat) (W V : World) : Prop where
  os : V.os = W.os
  tape : V.tape = W.tape
  output : V.output = W.output
  size : W.heap.size ≤ V.heap.size
  low : ∀ k : Nat, k < B → k < W.heap.size → V.heap[k]? = W.heap[k]?
  cells : ∀ (k : Nat) (o : Obj), W.heap[k]? = some o → o.isCells = true → V.heap[k]? = some o
set_option maxRecDepth 100000 in
theorem Blink.refl (B : Nat) (W : World) : Blink B W W := ⟨rfl, rfl, rfl, Nat.le_refl _, fun _ _ _ => rfl, fun _ _ h _ => h⟩
set_option maxRecDepth 100000 in
theorem Blink.trans {B : Nat} {W V U : World} (h : Blink B W V) (k : Blink B V U) : Blink B W U :=
  ⟨k.os.trans h.os, k.tape.trans h.tape, k.output.trans h.output, Nat.le_trans h.size k.size, fun i hi hw => (k.low i hi (Nat.lt_of_lt_of_le hw h.size)).trans (h.low i hi hw), fun i o ho hc => k.cells i o (h.cells i o ho hc) hc⟩
set_option maxRecDepth 100000 in
theorem Blink.alloc (B : Nat) (W : World) (o : Obj) : Blink B W (W.alloc o) :=
  ⟨rfl, rfl, rfl, by simp, fun k _ hk => Below.heap_alloc _ _ _ hk, fun k _ hk _ => (Below.heap_alloc W o k (Array.getElem?_eq_some_iff.1 hk).1).trans hk⟩
set_option maxRecDepth 100000 in
theorem Blink.putObj {B l : Nat} {W : World} {o : Obj} (o' : Obj) (hB : B ≤ l) (h : W.heap[l]? = some o) (hc : o.isCells = false) : Blink B W (W.putObj l o') :=
  ⟨rfl, rfl, rfl, by simp, fun k hk _ => World.putObj_heap_other (by omega), fun k p hk hp => by
    by_cases e : k = l
    · subst e; rw [h] at hk; cases hk; rw [hc] at hp; cases hp
    · exact (World.putObj_heap_other e).trans hk⟩
set_option maxRecDepth 100000 in
theorem Blink.below {B b : Nat} {W V : World} (h : Blink B W V) (hb : b ≤ B) (hw : b ≤ W.heap.size) : Below b W V :=
  ⟨h.os, h.tape, h.output, h.size, fun k hk => h.low k (by omega) (by omega)⟩

/-- The contract of an iterator: in a state s it hands an x and comes to a state s', or is at its end; what its steps turn, Fr says. -/
def SeqHand {σ α : Type} (F : Fence) (n : Nat) (P : Program) (gf : Nat) (lb : Array Value) (encs : α → Array Value) (Own : σ → World → Prop) (Fr : σ → World → World → Prop) (Nx : σ → α → σ → Prop) (Fin : σ → Prop) : Prop :=
  ∀ (l : Nat) (J : σ → World → Prop) (Jx Je : World → Prop) (W : World) (s0 : σ),
    (∀ s W, J s W → Own s W) →
    (∀ s x s' W V, J s W → Nx s x s' → Own s' V → Fr s W V → YieldAt F (n - 1) P l (encs x) V fun e U => (e = .returned (.bool true) ∧ J s' U) ∨ (e = .returned (.bool false) ∧ Jx U)) →
    (∀ s W V, J s W → Fin s → Own s V → Fr s W V → Je V) →
    J s0 W →
    CallsIn F n P gf (#[.func (.yield l) #[] #[]] ++ lb) W fun e V => (∃ v, e = .returned v) ∧ (Je V ∨ Jx V)
/-- How a round may be left. -/
def rngPost {σ : Type} (I : σ → World → Prop) (Ix : Code → World → Prop) (s : σ) (W : World) : Exit → Act → World → Prop
  | .normal, _, V => KeepsOthers W V ∧ I s V
  | .ret, _, V => KeepsOthers W V ∧ Ix .ret V
  | .exit id, _, V => KeepsOthers W V ∧ Ix (.exit id) V
  | .goto t, _, V => KeepsOthers W V ∧ Ix (.goto t) V
  | .panic _, _, _ => False
  | .outgrown, _, _ => False
variable {F : Fence} {n : Nat} {P : Program}
set_option maxRecDepth 100000 in
/-- The statement 'for x := range g { .. }'. -/
theorem wpIn_range_hand {σ α : Type} {g : Operand} {ps : Array Tmp} {assign body : Code} {Q : Exit → Act → World → Prop} {a : Act} {w : World}
    (hro : F.round = none) (h1 : 1 ≤ n) {gf : Nat} {lb : Array Value} (hg : a.eval g = .func (.func gf) #[] lb) (hFg : F.fn gf) (eg : ∀ args w, (callFunc gf args).run P w = .ok (.enter gf args) w)
    {encs : α → Array Value} {Own : σ → World → Prop} {Fr : σ → World → World → Prop} {Nx : σ → α → σ → Prop} {Fin : σ → Prop} (hseq : SeqHand F (n - 1) P gf lb encs Own Fr Nx Fin) (hps : ∀ x, (encs x).size = ps.size)
    (hFo : ∀ s W V, Own s W → Fr s W V → KeepsOthers W V)
    (I : σ → World → Prop) (Ix : Code → World → Prop) (Ie : World → Prop) (s0 : σ)
    (hO : ∀ s W, I s W → Own s W) (hI : ∀ s W V, I s W → Blink w.heap.size W V → I s V) (hIx : ∀ c W V, Ix c W → Blink w.heap.size W V → Ix c V) (hIe : ∀ W V, Ie W → Blink w.heap.size W V → Ie V) (h0 : I s0 w)
    (hend : ∀ s W V, I s W → Fin s → Own s V → Fr s W V → Ie V)
    (hround : ∀ (l : Nat) s x s' W V, I s W → Nx s x s' → Own s' V → Fr s W V →
      assign.wpIn (F.inRound l) (n - 1 - 1) P (Exit.then (fun a₁ V₁ => KeepsOthers V V₁ ∧ ∀ V₂, Blink w.heap.size V₁ V₂ → body.wpIn (F.inRound l) (n - 1 - 1) P (rngPost I Ix s' V₂) a₁ V₂) (fun _ _ _ => False))
        { tmps := (ps.zip (encs x)).foldl (fun t (p, v) => t.setIfInBounds p v) a.tmps, defers := [] } V)
    (hdone : ∀ (D : Nat) (W : World), Ie W → W.heap[D]? = some (.deferred (some [])) → w.heap.size ≤ D → Q .normal { a with defers := { target := .collected D, args := #[] } :: a.defers } W)
    (hstop : ∀ (D : Nat) (c : Code) (W : World), Ix c W → W.heap[D]? = some (.deferred (some [])) → w.heap.size ≤ D → c.wpIn F n P Q { a with defers := { target := .collected D, args := #[] } :: a.defers } W) :
    (Code.rangeFunc g ps assign body).wpIn F n P Q a w := by
  refine wpIn_rangeFunc ?_
  intro fn hfn
  rw [hro]
  obtain ⟨rec, hrec⟩ : ∃ rec : LoopState → Option Code → Loop, rec = fun st pe => { state := st, pending := pe, fn, tmps := a.tmps, params := ps, assign, body, defers := w.heap.size } := ⟨_, rfl⟩
  obtain ⟨W1, hW1⟩ : ∃ W1, (w.alloc (.deferred (some []))).alloc (.loop (rec .ready none)) = W1 := ⟨_, rfl⟩
  have hL1 : W1.heap[w.heap.size + 1]? = some (.loop (rec .ready none)) := by
    rw [← hW1]; have := World.alloc_heap_new (w.alloc (.deferred (some []))) (.loop (rec .ready none)); rwa [World.size_alloc] at this
  have hK1 : W1.heap[w.heap.size]? = some (.deferred (some [])) := by
    rw [← hW1]; exact (Below.heap_alloc _ _ _ (by simp)).trans (World.alloc_heap_new w _)
  have hI1 : I s0 W1 := hI _ _ _ h0 (by rw [← hW1]; exact (Blink.alloc _ _ _).trans (Blink.alloc _ _ _))
  refine ⟨w.heap.size + 1, [{ target := .collected w.heap.size, args := #[] }], W1, { target := .fn (.func gf) lb, args := #[.func (.yield (w.heap.size + 1)) #[] #[]] }, W1, gf,
    #[.func (.yield (w.heap.size + 1)) #[] #[]] ++ lb, W1, ?_, ?_, ?_, ?_, fun _ => h1, ?_⟩
  · rw [← hW1, hrec]; exact run_enterLoop_outer _ _ _ _ _
  · simp only [resolve, hg]
    simp [go_sem]
  · intro f' hf'; simp [Target.leads] at hf'; subst hf'; exact hFg
  · simp [invoke, go_sem, eg]
  · refine (hseq (w.heap.size + 1)
      (fun s W => I s W ∧ W.heap[w.heap.size + 1]? = some (.loop (rec .ready none)) ∧ W.heap[w.heap.size]? = some (.deferred (some [])))
      (fun W => ∃ c, Ix c W ∧ W.heap[w.heap.size + 1]? = some (.loop (rec .done (some c))) ∧ W.heap[w.heap.size]? = some (.deferred (some [])))
      (fun W => Ie W ∧ W.heap[w.heap.size + 1]? = some (.loop (rec .ready none)) ∧ W.heap[w.heap.size]? = some (.deferred (some [])))
      W1 s0 (fun s W h => hO s W h.1) ?_ ?_ ⟨hI1, hL1, hK1⟩).mono ?_
    · rintro s x s' W V ⟨hi, hl, hk⟩ hn ho hf
      have hkeep := hFo s W V (hO s W hi) hf
      have hlV := hkeep.same _ _ hl rfl
      have hkV := hkeep.same _ _ hk rfl
      have hy := run_yield (P := P) (args := encs x) hlV (by rw [hrec]; exact hps x)
      rw [hrec] at hy
      refine ⟨fn, _, assign, body, hy, roundIn_of_wpIn hfn (wpIn_mono (hround (w.heap.size + 1) s x s' W V hi hn ho hf) ?_)⟩
      intro e a₁ V₁ hp
      cases e with
      | normal =>
        obtain ⟨hk1, hb⟩ := hp
        have hl1 := hk1.same _ _ hlV rfl
        have hd1 := hk1.same _ _ hkV rfl
        refine ⟨_, run_beginRound hl1 (by rw [hrec]), ?_⟩
        have hlt : w.heap.size + 1 < V₁.heap.size := (Array.getElem?_eq_some_iff.1 hl1).1
        have hl2 : (V₁.putObj (w.heap.size + 1) (.loop { rec .ready none with state := .busy })).heap[w.heap.size + 1]? = some (.loop { rec .ready none with state := .busy }) := World.putObj_heap_same hlt
        have hk2 : (V₁.putObj (w.heap.size + 1) (.loop { rec .ready none with state := .busy })).heap[w.heap.size]? = some (.deferred (some [])) := (World.putObj_heap_other (by omega)).trans hd1
        have fin : ∀ (jump : Option Code) (W3 : World), KeepsOthers (V₁.putObj (w.heap.size + 1) (.loop { rec .ready none with state := .busy })) W3 →
            (Instr.endRound (w.heap.size + 1) jump).run P W3 = .ok (.bool jump.isNone) (W3.putObj (w.heap.size + 1) (.loop (rec (if jump.isNone then .ready else .done) jump))) ∧
            W3.heap[w.heap.size + 1]? = some (.loop { rec .ready none with state := .busy }) ∧
            (W3.putObj (w.heap.size + 1) (.loop (rec (if jump.isNone then .ready else .done) jump))).heap[w.heap.size + 1]? = some (.loop (rec (if jump.isNone then .ready else .done) jump)) ∧
            (W3.putObj (w.heap.size + 1) (.loop (rec (if jump.isNone then .ready else .done) jump))).heap[w.heap.size]? = some (.deferred (some [])) := fun jump W3 hk3 => by
          have hl3 := hk3.same _ _ hl2 rfl
          have := run_endRound (P := P) jump hl3
          rw [hrec] at this ⊢
          exact ⟨this, by rw [hrec] at hl3; exact hl3, World.putObj_heap_same (Array.getElem?_eq_some_iff.1 hl3).1, (World.putObj_heap_other (by omega)).trans (hk3.same _ _ hk2 rfl)⟩
        refine wpIn_mono (hb _ (Blink.putObj _ (by omega) hl1 rfl)) ?_
        intro e2 a3 W3 hp2
        cases e2 with
        | normal =>
          obtain ⟨hk3, hi3⟩ := hp2
          obtain ⟨hr, hl3, hl4, hk4⟩ := fin none W3 hk3
          exact ⟨_, _, hr, .inl ⟨rfl, hI _ _ _ hi3 (Blink.putObj _ (by omega) hl3 rfl), hl4, hk4⟩⟩
        | ret =>
          obtain ⟨hk3, hi3⟩ := hp2
          obtain ⟨hr, hl3, hl4, hk4⟩ := fin (some .ret) W3 hk3
          exact ⟨_, _, hr, .inr ⟨rfl, .ret, hIx _ _ _ hi3 (Blink.putObj _ (by omega) hl3 rfl), hl4, hk4⟩⟩
        | exit id =>
          obtain ⟨hk3, hi3⟩ := hp2
          obtain ⟨hr, hl3, hl4, hk4⟩ := fin (some (.exit id)) W3 hk3
          exact ⟨_, _, hr, .inr ⟨rfl, .exit id, hIx _ _ _ hi3 (Blink.putObj _ (by omega) hl3 rfl), hl4, hk4⟩⟩
        | goto t =>
          obtain ⟨hk3, hi3⟩ := hp2
          obtain ⟨hr, hl3, hl4, hk4⟩ := fin (some (.goto t)) W3 hk3
          exact ⟨_, _, hr, .inr ⟨rfl, .goto t, hIx _ _ _ hi3 (Blink.putObj _ (by omega) hl3 rfl), hl4, hk4⟩⟩
        | panic ch => exact hp2.elim
        | outgrown => exact hp2.elim
      | ret => exact hp.elim
      | exit id => exact hp.elim
      | goto t => exact hp.elim
      | panic ch => exact hp.elim
      | outgrown => exact hp.elim
    · rintro s W V ⟨hi, hl, hk⟩ hfin ho hf
      have hkeep := hFo s W V (hO s W hi) hf
      exact ⟨hend s W V hi hfin ho hf, hkeep.same _ _ hl rfl, hkeep.same _ _ hk rfl⟩
    · rintro e W2 ⟨⟨v, rfl⟩, (⟨hi, hl, hk⟩ | ⟨c, hi, hl, hk⟩)⟩
      · exact ⟨none, _, by have := run_endLoop (P := P) hl (by rw [hrec]; simp); rw [hrec] at this; exact this, hdone _ _ (hIe _ _ hi (Blink.putObj _ (by omega) hl rfl)) ((World.putObj_heap_other (by omega)).trans hk) (Nat.le_refl _)⟩
      · exact ⟨some c, _, by have := run_endLoop (P := P) hl (by rw [hrec]; simp); rw [hrec] at this; exact this, hstop _ c _ (hIx _ _ _ hi (Blink.putObj _ (by omega) hl rfl)) ((World.putObj_heap_other (by omega)).trans hk) (Nat.le_refl _)⟩
end Go.Proofs.YtnmacalbbmeedaaGreat
